/-
  No page is in two frames, whatever is done; how many frames are of a page. Conditions: each theorem's own.
-/
import Derived.Test.YthdhfojogckflaaW14Keeps
import Derived.Test.YthdhfojogckflaaPrtW
namespace Go.Proofs.Ythdhfojogckflaa
open Go.RowKit
set_option linter.unusedVariables false
set_option linter.unusedSimpArgs false

def Uq (L : List FS) : Prop := ∀ i k, i < L.length → k < L.length → (L.getD i FS.empty).u = true → (L.getD k FS.empty).u = true → (L.getD i FS.empty).q = (L.getD k FS.empty).q → i = k
theorem Uq.set {L : List FS} (h : Uq L) {m : Nat} {s : FS} (hs : s.u = true → ∀ k, k < L.length → k ≠ m → (L.getD k FS.empty).u = true → (L.getD k FS.empty).q ≠ s.q) : Uq (L.set m s) := by
  intro i k hi hk ui uk e
  rw [List.length_set] at hi hk
  rw [getD_set hi] at ui e
  rw [getD_set hk] at uk e
  by_cases h1 : m = i
  · by_cases h2 : m = k
    · omega
    · rw [if_pos h1] at ui e
      rw [if_neg h2] at uk e
      exact absurd e.symm (hs ui k hk (fun e => h2 e.symm) uk)
  · by_cases h2 : m = k
    · rw [if_neg h1] at ui e
      rw [if_pos h2] at uk e
      exact absurd e (hs uk i hi (fun e => h1 e.symm) ui)
    · rw [if_neg h1] at ui e
      rw [if_neg h2] at uk e
      exact h i k hi hk ui uk e
theorem Uq.same {L : List FS} (h : Uq L) {m : Nat} (hm : m < L.length) {s : FS} (hq : s.q = (L.getD m FS.empty).q) (hu : s.u = true → (L.getD m FS.empty).u = true) : Uq (L.set m s) :=
  h.set (fun hs k hk hkm uk e => hkm (h k m hk hm uk (hu hs) (e.trans hq)))
theorem Uq.onP {L : List FS} (h : Uq L) (q : Int) {f : FS → FS × Int} (hf : ∀ s : FS, (f s).1.q = s.q ∧ ((f s).1.u = true → s.u = true)) : Uq (onP q f L).1 := by
  unfold Proofs.Ythdhfojogckflaa.onP
  split
  · rename_i hl; exact h.same hl (hf _).1 (hf _).2
  · exact h
theorem Uq.empty (n : Nat) : Uq (List.replicate n FS.empty) := fun i k hi hk ui _ _ => by
  rw [repl_at (by simpa using hi)] at ui; cases ui
theorem Uq.stp (k i q off n : Int) {ys : List Int} {L : List FS} {h : Nat} (hu : Uq L) (hk : PtOk L h) : Uq (stp k i q off n ys L h).1 := by
  unfold Proofs.Ythdhfojogckflaa.stp
  split
  · intro x y hx hy ux uy e
    simp only [vicL_len] at hx hy
    have e1 := vicL_is hk.2.1 hx
    have e2 := vicL_is hk.2.1 hy
    rw [e1] at ux e
    rw [e2] at uy e
    exact hu x y hx hy ux uy e
  · split
    · unfold relP
      split
      · split
        · exact hu.set (fun h => by cases h)
        · exact hu
      · exact hu
    · split
      · unfold clnP
        split
        · rename_i hj
          have hi : inL i L := of_decide_eq_true (p := 0 ≤ i ∧ i < L.length) hj
          have hm : i.toNat < L.length := by have h1 : 0 ≤ i := hi.1; have h2 : i < L.length := hi.2; omega
          exact hu.same hm rfl (fun h => h)
        · exact hu
      · split
        · exact hu.onP q pinS_same
        · split
          · exact hu.onP q unpinS_same
          · split
            · unfold getP
              split
              · rename_i hl
                refine hu.same hl ?_ ?_
                · unfold getS; split
                  · rfl
                  · split <;> rfl
                · unfold getS; split
                  · exact fun h => h
                  · split
                    · exact fun h => h
                    · exact fun h => h
              · exact hu
            · split
              · exact hu.onP q (putS_same off (ys.take 40))
              · split
                · exact Uq.empty _
                · unfold loadP
                  split
                  · rename_i hj
                    have hi : inL i L := of_decide_eq_true (p := 0 ≤ i ∧ i < L.length) hj
                    have hm : i.toNat < L.length := by have h1 : 0 ≤ i := hi.1; have h2 : i < L.length := hi.2; omega
                    split
                    · exact hu
                    · rename_i hn
                      by_cases hy : (byL n ys).length = 32
                      · rw [loadS_yes hy]
                        refine hu.set (fun _ x hx hxm ux e => ?_)
                        have hof : (L.getD x FS.empty).of q = true := by
                          show (_ && (_ == _)) = true
                          rw [ux, Bool.true_and, beq_iff_eq]; exact e
                        have hfl : fnd q L ≤ x := by
                          rcases Nat.lt_or_ge x (fnd q L) with h1 | h1
                          · have := fnd_not h1; rw [hof] at this; cases this
                          · exact h1
                        have hff := fnd_of (q := q) (L := L) (by omega)
                        have hfu : (L.getD (fnd q L) FS.empty).u = true ∧ (L.getD (fnd q L) FS.empty).q = q := by
                          have : (_ && (_ == _)) = true := hff
                          rw [Bool.and_eq_true, beq_iff_eq] at this
                          exact this
                        have hxe := hu x (fnd q L) hx (by omega) ux hfu.1 (e.trans hfu.2.symm)
                        have hi0 : 0 ≤ i := hi.1
                        exact hn ⟨by omega, by omega⟩
                      · rw [loadS_no hy]; exact hu.same hm rfl (fun h => h)
                  · exact hu

/-- how many of the first j frames are of the page q -/
def cntP (q : Int) (L : List FS) : Nat → Nat
  | 0 => 0
  | j + 1 => cntP q L j + (if (L.getD j FS.empty).of q then 1 else 0)
theorem cntP_uq {q : Int} {L : List FS} (h : Uq L) : ∀ j, j ≤ L.length → cntP q L j = if fnd q L < j then 1 else 0 := by
  intro j
  induction j with
  | zero => intro _; rfl
  | succ j ih =>
    intro hj
    show cntP q L j + _ = _
    rw [ih (by omega)]
    by_cases ho : (L.getD j FS.empty).of q = true
    · rw [if_pos ho]
      have hfl : fnd q L ≤ j := by
        rcases Nat.lt_or_ge j (fnd q L) with h1 | h1
        · have := fnd_not h1; rw [ho] at this; cases this
        · exact h1
      have hff := fnd_of (q := q) (L := L) (by omega)
      have h1 : (_ && (_ == _)) = true := ho
      have h2 : (_ && (_ == _)) = true := hff
      rw [Bool.and_eq_true, beq_iff_eq] at h1 h2
      have he := h j (fnd q L) (by omega) (by omega) h1.1 h2.1 (h1.2.trans h2.2.symm)
      rw [if_neg (by omega), if_pos (by omega)]
    · rw [if_neg ho]
      have hne : fnd q L ≠ j := fun e => by
        have := fnd_of (q := q) (L := L) (by omega)
        rw [e] at this
        exact ho this
      by_cases hf : fnd q L < j
      · rw [if_pos hf, if_pos (by omega)]
      · rw [if_neg hf, if_neg (by omega)]
end Go.Proofs.Ythdhfojogckflaa
