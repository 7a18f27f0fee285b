/-
  The walk of PartKeeps. Conditions: the theorem's own.
-/
import Derived.Test.YthdhfojogckflaaW14Rounds
import Derived.Test.YthdhfojogckflaaOpenD
import Derived.Deep.LoopGhost
import Derived.Deep.CutRange
namespace Go.Proofs.Ythdhfojogckflaa
open Go.RowKit
set_option linter.unusedVariables false
set_option linter.unusedSimpArgs false

theorem put_mid {fs A : List Int} {K : Nat} (h : fs.length = 32) (hA : K + A.length ≤ 32) : putted fs (K : Int) A = (midL fs K A, 0) := by
  unfold putted
  rw [h, fitE_ok (by omega), if_pos rfl, Int.toNat_natCast]
theorem got_mid {fs A : List Int} {K : Nat} (h : fs.length = 32) (hA : K + A.length ≤ 32) : got (midL fs K A) (K : Int) (A.length : Int) = (A, 0) := by
  unfold got
  rw [midL_length (by omega), h, fitE_ok (by omega), if_pos rfl, Int.toNat_natCast, Int.toNat_natCast]
  unfold midL
  have e1 : (fs.take K).length = K := by rw [List.length_take]; omega
  rw [List.append_assoc, List.drop_left' e1, List.take_left' rfl]

/-- two frames: the page 0 in the first, pinned once; the second of another page, or of none -/
def KP (BS : List Int) (L : List FS) : Prop := L.length = 2 ∧ ((L.getD 0 FS.empty).u = true ∧ (L.getD 0 FS.empty).q = 0 ∧ (L.getD 0 FS.empty).p = 1 ∧ (L.getD 0 FS.empty).bs = BS) ∧ ((L.getD 1 FS.empty).u = true → (L.getD 1 FS.empty).q ≠ 0)
theorem KP.fnd0 {BS : List Int} {L : List FS} (h : KP BS L) : fnd 0 L = 0 :=
  fnd_is (by rw [h.1]; omega) (by show (_ && (_ == _)) = true; rw [h.2.1.1, h.2.1.2.1]; rfl) (fun i hi => absurd hi (Nat.not_lt_zero _))
theorem KP.fndq {BS : List Int} {L : List FS} (h : KP BS L) {q : Int} (hq : q ≠ 0) (hf : fnd q L < L.length) : fnd q L = 1 := by
  have h1 : fnd q L ≠ 0 := fun e => by
    have := fnd_of hf
    rw [e] at this
    have h2 : ((L.getD 0 FS.empty).u && ((L.getD 0 FS.empty).q == q)) = true := this
    rw [h.2.1.2.1] at h2
    have h3 : ((0 : Int) == q) = true := by
      cases hu : (L.getD 0 FS.empty).u with
      | false => rw [hu] at h2; cases h2
      | true => rw [hu, Bool.true_and] at h2; exact h2
    exact hq (beq_iff_eq.1 h3).symm
  have := h.1
  omega
theorem KP.set1 {BS : List Int} {L : List FS} (h : KP BS L) {s : FS} (hs : s.u = true → s.q ≠ 0) : KP BS (L.set 1 s) := by
  have hl := h.1
  refine ⟨by rw [List.length_set]; exact h.1, ?_, ?_⟩
  · rw [getD_set (by omega), if_neg (by decide)]; exact h.2.1
  · rw [getD_set (by omega), if_pos rfl]; exact hs
theorem KP.onP {BS : List Int} {L : List FS} (h : KP BS L) {q : Int} (hq : q ≠ 0) {f : FS → FS × Int} (hf : ∀ s : FS, (f s).1.q = s.q ∧ ((f s).1.u = true → s.u = true)) : KP BS (onP q f L).1 := by
  unfold Proofs.Ythdhfojogckflaa.onP
  split
  · rename_i hl
    rw [h.fndq hq hl]
    exact h.set1 (fun hu => by rw [(hf _).1]; exact h.2.2 ((hf _).2 hu))
  · exact h
theorem KP.load {BS : List Int} {L : List FS} (h : KP BS L) {q : Int} (hq : q ≠ 0) (ys : List Int) : KP BS (loadP 1 q ys L).1 := by
  have hl := h.1
  have e1 : (1 : Int) = ((1 : Nat) : Int) := rfl
  rw [e1, loadP_yes (by omega) (fun e => e.2 (h.fndq hq e.1))]
  refine h.set1 (fun hu => ?_)
  by_cases hy : ys.length = 32
  · rw [loadS_yes hy]; exact hq
  · rw [loadS_no hy] at hu ⊢; exact h.2.2 hu
theorem KP.rel {BS : List Int} {L : List FS} (h : KP BS L) : KP BS (relP 1 L).1 := by
  have hl := h.1
  have e1 : (1 : Int) = ((1 : Nat) : Int) := rfl
  rw [e1]
  by_cases hp : (L.getD 1 FS.empty).p ≤ 0
  · rw [relP_yes (by omega) hp]; exact h.set1 (fun hu => by cases hu)
  · rw [relP_pin (by omega) hp]; exact h
theorem KP.vic {BS : List Int} {L : List FS} {hd : Nat} (h : KP BS L) (hk : PtOk L hd) : KP BS (vicL L hd) := by
  have hl := h.1
  have v0 := vicL_is (h := hd) (i := 0) hk.2.1 (by omega)
  have v1 := vicL_is (h := hd) (i := 1) hk.2.1 (by omega)
  refine ⟨by rw [vicL_len]; exact h.1, ?_, ?_⟩
  · rw [v0]; exact h.2.1
  · rw [v1]; exact h.2.2
theorem pinS_same (s : FS) : (pinS s).1.q = s.q ∧ ((pinS s).1.u = true → s.u = true) := by
  unfold pinS
  split
  · rename_i hu
    split
    · exact ⟨rfl, fun h => h⟩
    · exact ⟨rfl, fun _ => hu⟩
  · exact ⟨rfl, fun h => h⟩
theorem unpinS_same (s : FS) : (unpinS s).1.q = s.q ∧ ((unpinS s).1.u = true → s.u = true) := by
  unfold unpinS
  split
  · exact ⟨rfl, fun h => h⟩
  · exact ⟨rfl, fun h => h⟩
theorem putS_same (off : Int) (ys : List Int) (s : FS) : (putS s off ys).1.q = s.q ∧ ((putS s off ys).1.u = true → s.u = true) := by
  unfold putS
  split
  · exact ⟨rfl, fun h => h⟩
  · split
    · exact ⟨rfl, fun h => h⟩
    · exact ⟨rfl, fun h => h⟩
def k0 : List FS := [⟨true, false, false, 0, 0, z32⟩, FS.empty]
def k1 : List FS := [⟨true, false, true, 1, 0, z32⟩, FS.empty]
def k2 (A : List Int) (K : Nat) : List FS := [⟨true, true, true, 1, 0, midL z32 K A⟩, FS.empty]
theorem kx_load : loadP 0 0 z32 (List.replicate 2 FS.empty) = (k0, 0) := by rfl
theorem kx_pin : onP 0 pinS k0 = (k1, 0) := by rfl
theorem kx_put {A : List Int} {K : Nat} (h : K + A.length ≤ 32) : onP 0 (fun s => putS s (K : Int) A) k1 = (k2 A K, 0) := by
  have hf : fnd 0 k1 = 0 := rfl
  have hm : putted z32 (K : Int) A = (midL z32 K A, 0) := put_mid z32_len h
  rw [onP_yes (by rw [hf]; decide) hf]
  have e : (k1.getD 0 FS.empty) = ⟨true, false, true, 1, 0, z32⟩ := rfl
  rw [e]
  have e2 : putS ⟨true, false, true, 1, 0, z32⟩ (K : Int) A = (⟨true, true, true, 1, 0, midL z32 K A⟩, 0) := by
    unfold putS
    rw [if_neg (by show ¬ (1 : Int) ≤ 0; omega)]
    simp only [hm]
    rfl
  simp only [e2]
  rfl
theorem k0_ok : PtOk k0 0 := ⟨fun s hs => by simp [k0] at hs; rcases hs with h | h <;> (subst h; exact ⟨z32_len, z32_oct, by decide, by decide⟩), by decide, by decide⟩
theorem k1_ok : PtOk k1 0 := ⟨fun s hs => by simp [k1] at hs; rcases hs with h | h <;> (subst h; exact ⟨z32_len, z32_oct, by decide, by decide⟩), by decide, by decide⟩
theorem k2_ok {A : List Int} {K : Nat} (h : K + A.length ≤ 32) (hA : Oct A) : PtOk (k2 A K) 0 := ⟨fun s hs => by
  simp [k2] at hs
  rcases hs with h1 | h1
  · subst h1
    exact ⟨by show (midL z32 K A).length = 32; rw [midL_length (by rw [z32_len]; exact h), z32_len], oct_mid z32_oct hA K, by show (0 : Int) ≤ 1; omega, by show (1 : Int) ≤ 100; omega⟩
  · subst h1; exact FS.empty_ok, by show 0 < 2; omega, by show 2 ≤ 64; omega⟩
theorem k2_kp (A : List Int) (K : Nat) : KP (midL z32 K A) (k2 A K) := ⟨rfl, ⟨rfl, rfl, rfl, rfl⟩, fun h => by cases h⟩
theorem KP.told {A : List Int} {K : Nat} {L : List FS} (h : KP (midL z32 K A) L) (hA : K + A.length ≤ 32) : getP 0 (K : Int) (A.length : Int) L = (L.set 0 ⟨(L.getD 0 FS.empty).u, (L.getD 0 FS.empty).d, true, (L.getD 0 FS.empty).p, (L.getD 0 FS.empty).q, (L.getD 0 FS.empty).bs⟩, A, 0) := by
  have hl := h.1
  rw [getP_yes (by rw [h.fnd0]; omega) h.fnd0]
  have hg : got (L.getD 0 FS.empty).bs (K : Int) (A.length : Int) = (A, 0) := by rw [h.2.1.2.2.2]; exact got_mid z32_len hA
  have e : getS (L.getD 0 FS.empty) (K : Int) (A.length : Int) = (⟨(L.getD 0 FS.empty).u, (L.getD 0 FS.empty).d, true, (L.getD 0 FS.empty).p, (L.getD 0 FS.empty).q, (L.getD 0 FS.empty).bs⟩, A, 0) := by
    unfold getS
    rw [if_neg (by rw [h.2.1.2.2.1]; omega), hg, if_pos rfl]
  rw [e]
theorem four4 {k : Int} (h : 0 ≤ k ∧ k < 4) : k = 0 ∨ k = 1 ∨ k = 2 ∨ k = 3 := by omega
end Go.Proofs.Ythdhfojogckflaa
