/-
  What is done with a frame, as a function of what it has: the frame's calls and the document's, each in one theorem. Conditions: each theorem's own.
-/
import Derived.Test.YtgpigllimoafaaaFraD
import Derived.Test.YtgpigllimoafaaaFraC
namespace Go.Proofs.Ytgpigllimoafaaa
open Go.RowKit
set_option linter.unusedVariables false
set_option linter.unusedSimpArgs false

/-- a frame as the document has it, by value -/
def FS.v (s : FS) : Value := .agg #[.bool s.u, .bool s.d, .bool s.r, .int .i64 s.p, .int .i64 s.q, .string (strOfNums s.bs)]
def FS.Ok (s : FS) : Prop := s.bs.length = 32 ∧ Oct s.bs ∧ 0 ≤ s.p ∧ s.p ≤ 100
def FrS (w : World) (b : Nat) (s : FS) : Prop := FrAt w b s.u s.d s.r s.p s.q s.bs
def FS.empty : FS := ⟨false, false, false, 0, 0, z32⟩
theorem FS.empty_ok : FS.empty.Ok := ⟨z32_len, z32_oct, Int.le_refl _, by show (0 : Int) ≤ 100; omega⟩

def pinS (s : FS) : FS × Int := if s.u = true then (if 100 ≤ s.p then (s, 13) else (⟨true, s.d, true, s.p + 1, s.q, s.bs⟩, 0)) else (s, 6)
def unpinS (s : FS) : FS × Int := if s.p ≤ 0 then (s, 6) else (⟨s.u, s.d, s.r, s.p - 1, s.q, s.bs⟩, 0)
def loadS (s : FS) (pg : Int) (ys : List Int) : FS × Int := if ys.length = 32 then (⟨true, false, false, 0, pg, ys⟩, 0) else (s, 2)
def getS (s : FS) (off n : Int) : FS × List Int × Int := if s.p ≤ 0 then (s, [], 6) else if (got s.bs off n).2 = 0 then (⟨s.u, s.d, true, s.p, s.q, s.bs⟩, (got s.bs off n).1, 0) else (s, [], (got s.bs off n).2)
def putS (s : FS) (off : Int) (ys : List Int) : FS × Int := if s.p ≤ 0 then (s, 6) else if (putted s.bs off ys).2 = 0 then (⟨s.u, true, true, s.p, s.q, (putted s.bs off ys).1⟩, 0) else (s, (putted s.bs off ys).2)

theorem putted_len {bs ys : List Int} {off : Int} (h : bs.length = 32) (hz : (putted bs off ys).2 = 0) : (putted bs off ys).1.length = 32 := by
  rcases fitE_cases bs.length off ys.length with ⟨_, hE⟩ | ⟨_, _, hE⟩ | ⟨hl, h3, h4, h5, hE⟩
  · unfold putted at hz; rw [hE, if_neg (by omega)] at hz; simp at hz
  · unfold putted at hz; rw [hE, if_neg (by omega)] at hz; simp at hz
  · unfold putted
    rw [hE, if_pos rfl, midL_length (by omega), h]

theorem pinS_ok {s : FS} (h : s.Ok) : (pinS s).1.Ok := by
  unfold pinS
  split
  · split
    · exact h
    · exact ⟨h.1, h.2.1, by show 0 ≤ s.p + 1; have := h.2.2.1; omega, by show s.p + 1 ≤ 100; omega⟩
  · exact h
theorem unpinS_ok {s : FS} (h : s.Ok) : (unpinS s).1.Ok := by
  unfold unpinS
  split
  · exact h
  · exact ⟨h.1, h.2.1, by show 0 ≤ s.p - 1; omega, by show s.p - 1 ≤ 100; have := h.2.2.2; omega⟩
theorem loadS_ok {s : FS} (h : s.Ok) (pg : Int) {ys : List Int} (hy : Oct ys) : (loadS s pg ys).1.Ok := by
  unfold loadS
  split
  · rename_i hl; exact ⟨hl, hy, by show (0 : Int) ≤ 0; omega, by show (0 : Int) ≤ 100; omega⟩
  · exact h
theorem getS_ok {s : FS} (h : s.Ok) (off n : Int) : (getS s off n).1.Ok := by
  unfold getS
  split
  · exact h
  · split
    · exact ⟨h.1, h.2.1, h.2.2.1, h.2.2.2⟩
    · exact h
theorem putS_ok {s : FS} (h : s.Ok) (off : Int) {ys : List Int} (hy : Oct ys) : (putS s off ys).1.Ok := by
  unfold putS
  split
  · exact h
  · split
    · rename_i hz; exact ⟨putted_len h.1 hz, putted_oct h.2.1 hy off, h.2.2.1, h.2.2.2⟩
    · exact h


theorem pinS_any (s : FS) (hs : s.Ok) (w : World) (b : Nat) (h : FrS w b s) : Calls Try.prog 44 #[.pointer (some ⟨b, 0, none⟩)] w fun e w' => e = .returned (.int .i64 (pinS s).2) ∧ FrS w' b (pinS s).1 ∧ UpdS (fun i => i = b) w w' := by
  obtain ⟨u, d, r, p, q, bs⟩ := s
  obtain ⟨h1, h2, h3, h4⟩ := hs
  simp only at h1 h2 h3 h4
  have h' : FrAt w b u d r p q bs := h
  cases u with
  | false =>
    refine (pin_unused w b _ d r p q bs h' rfl).mono ?_
    rintro e w' ⟨rfl, rfl⟩
    exact ⟨rfl, h, UpdS.refl _ _⟩
  | true =>
    by_cases hp : 100 ≤ p
    · have e : pinS ⟨true, d, r, p, q, bs⟩ = (⟨true, d, r, p, q, bs⟩, 13) := by unfold pinS; rw [if_pos rfl, if_pos hp]
      rw [e]
      refine (pin_full w b _ d r p q bs h' rfl hp).mono ?_
      rintro e w' ⟨rfl, rfl⟩
      exact ⟨rfl, h, UpdS.refl _ _⟩
    · have e : pinS ⟨true, d, r, p, q, bs⟩ = (⟨true, d, true, p + 1, q, bs⟩, 0) := by unfold pinS; rw [if_pos rfl, if_neg hp]
      rw [e]; exact pin_yes w b _ d r p q bs h' rfl h3 (by omega)
theorem unpinS_any (s : FS) (hs : s.Ok) (w : World) (b : Nat) (h : FrS w b s) : Calls Try.prog 47 #[.pointer (some ⟨b, 0, none⟩)] w fun e w' => e = .returned (.int .i64 (unpinS s).2) ∧ FrS w' b (unpinS s).1 ∧ UpdS (fun i => i = b) w w' := by
  obtain ⟨u, d, r, p, q, bs⟩ := s
  obtain ⟨h1, h2, h3, h4⟩ := hs
  simp only at h1 h2 h3 h4
  have h' : FrAt w b u d r p q bs := h
  by_cases hp : p ≤ 0
  · have e : unpinS ⟨u, d, r, p, q, bs⟩ = (⟨u, d, r, p, q, bs⟩, 6) := by unfold unpinS; rw [if_pos hp]
    rw [e]
    refine (unpin_no w b u d r p q bs h' hp).mono ?_
    rintro e w' ⟨rfl, rfl⟩
    exact ⟨rfl, h, UpdS.refl _ _⟩
  · have e : unpinS ⟨u, d, r, p, q, bs⟩ = (⟨u, d, r, p - 1, q, bs⟩, 0) := by unfold unpinS; rw [if_neg hp]
    rw [e]; exact unpin_yes w b u d r p q bs h' (by omega) h4
theorem loadS_any (s : FS) (hs : s.Ok) (w : World) (b : Nat) (h : FrS w b s) (pg : Int) (v : Value) (ys : List Int) (hy : RdV (Value.int .u8) 0 (fun i => i ≠ b) w v ys) : Calls Try.prog 42 #[.pointer (some ⟨b, 0, none⟩), .int .i64 pg, v] w fun e w' => e = .returned (.int .i64 (loadS s pg ys).2) ∧ FrS w' b (loadS s pg ys).1 ∧ UpdS (fun i => i = b) w w' := by
  obtain ⟨u, d, r, p, q, bs⟩ := s
  clear hs
  have h' : FrAt w b u d r p q bs := h
  have hyl := hy.len
  obtain ⟨a, c, rfl⟩ := hy.shape
  by_cases hl : ys.length = 32
  · have e : loadS ⟨u, d, r, p, q, bs⟩ pg ys = (⟨true, false, false, 0, pg, ys⟩, 0) := by unfold loadS; rw [if_pos hl]
    rw [e]
    rw [hl] at hy ⊢
    exact load_yes w b u d r p q bs h' pg a c ys hy
  · have e : loadS ⟨u, d, r, p, q, bs⟩ pg ys = (⟨u, d, r, p, q, bs⟩, 2) := by unfold loadS; rw [if_neg hl]
    rw [e]
    refine (load_no w b pg a _ c hl hyl).mono ?_
    rintro e w' ⟨rfl, rfl⟩
    exact ⟨rfl, h, UpdS.refl _ _⟩
theorem putS_any (s : FS) (hs : s.Ok) (w : World) (b : Nat) (h : FrS w b s) (off : Int) (v : Value) (ys : List Int) (t : Nat → Prop) (hy : RdV (Value.int .u8) 0 t w v ys) (ho : (Lit.int .i64 off).wf = true) : Calls Try.prog 45 #[.pointer (some ⟨b, 0, none⟩), .int .i64 off, v] w fun e w' => e = .returned (.int .i64 (putS s off ys).2) ∧ FrS w' b (putS s off ys).1 ∧ UpdS (fun i => i = b) w w' := by
  obtain ⟨u, d, r, p, q, bs⟩ := s
  obtain ⟨h1, h2, h3, h4⟩ := hs
  simp only at h1 h2 h3 h4
  have h' : FrAt w b u d r p q bs := h
  by_cases hp : p ≤ 0
  · have e : putS ⟨u, d, r, p, q, bs⟩ off ys = (⟨u, d, r, p, q, bs⟩, 6) := by unfold putS; rw [if_pos hp]
    rw [e]
    refine (fput_free w b u d r p q bs h' off v hp).mono ?_
    rintro e w' ⟨rfl, rfl⟩
    exact ⟨rfl, h, UpdS.refl _ _⟩
  · by_cases hz : (putted bs off ys).2 = 0
    · have e : putS ⟨u, d, r, p, q, bs⟩ off ys = (⟨u, true, true, p, q, (putted bs off ys).1⟩, 0) := by unfold putS; rw [if_neg hp, if_pos hz]
      rw [e]; exact fput_yes w b u d r p q bs h' off v ys t (putted bs off ys).1 hy (by omega) ho (by rw [← hz]) (putted_len h1 hz)
    · have e : putS ⟨u, d, r, p, q, bs⟩ off ys = (⟨u, d, r, p, q, bs⟩, (putted bs off ys).2) := by unfold putS; rw [if_neg hp, if_neg hz]
      rw [e]
      refine (fput_err w b u d r p q bs h' off _ v ys t hy (by omega) ho rfl hz).mono ?_
      rintro e w' ⟨rfl, g⟩
      exact ⟨rfl, h'.grow g, g.s⟩
end Go.Proofs.Ytgpigllimoafaaa
