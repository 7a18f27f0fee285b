/-
  What is done with a frame, as a function of what it has: the frame's calls and the document's, each in one theorem. Conditions: each theorem's own.
-/
import Derived.Test.YtcmehefaceaioaaFraD
import Derived.Test.YtcmehefaceaioaaFraC
namespace Go.Proofs.Ytcmehefaceaioaa
open Go.RowKit
set_option linter.unusedVariables false
set_option linter.unusedSimpArgs false

/-- a frame as the document has it, by value -/
def FS.v (s : FS) : Value := .agg #[.bool s.u, .bool s.d, .bool s.r, .int .i64 s.p, .int .i64 s.q, .string (strOfNums s.bs)]
def FS.Ok (s : FS) : Prop := s.bs.length = 32 ∧ Oct s.bs ∧ 0 ≤ s.p ∧ s.p ≤ 100
def FrS (w : World) (b : Nat) (s : FS) : Prop := FrAt w b s.u s.d s.r s.p s.q s.bs
def FS.empty : FS := ⟨false, false, false, 0, 0, z32⟩
theorem FS.empty_ok : FS.empty.Ok := ⟨z32_len, z32_oct, Int.le_refl _, by show (0 : Int) ≤ 100; omega⟩

def pinS (s : FS) : FS × Int := if s.u = true then (if 100 ≤ s.p then (s, 13) else (⟨true, s.d, true, s.p + 1, s.q, s.bs⟩, 0)) else (s, 6)
def unpinS (s : FS) : FS × Int := if s.p ≤ 0 then (s, 6) else (⟨s.u, s.d, s.r, s.p - 1, s.q, s.bs⟩, 0)
def loadS (s : FS) (pg : Int) (ys : List Int) : FS × Int := if ys.length = 32 then (⟨true, false, false, 0, pg, ys⟩, 0) else (s, 2)
def getS (s : FS) (off n : Int) : FS × List Int × Int := if s.p ≤ 0 then (s, [], 6) else if (got s.bs off n).2 = 0 then (⟨s.u, s.d, true, s.p, s.q, s.bs⟩, (got s.bs off n).1, 0) else (s, [], (got s.bs off n).2)
def putS (s : FS) (off : Int) (ys : List Int) : FS × Int := if s.p ≤ 0 then (s, 6) else if (putted s.bs off ys).2 = 0 then (⟨s.u, true, true, s.p, s.q, (putted s.bs off ys).1⟩, 0) else (s, (putted s.bs off ys).2)

theorem putted_len {bs ys : List Int} {off : Int} (h : bs.length = 32) (hz : (putted bs off ys).2 = 0) : (putted bs off ys).1.length = 32 := by
  rcases fitE_cases bs.length off ys.length with ⟨_, hE⟩ | ⟨_, _, hE⟩ | ⟨hl, h3, h4, h5, hE⟩
  · unfold putted at hz; rw [hE, if_neg (by omega)] at hz; simp at hz
  · unfold putted at hz; rw [hE, if_neg (by omega)] at hz; simp at hz
  · unfold putted
    rw [hE, if_pos rfl, midL_length (by omega), h]

theorem pinS_ok {s : FS} (h : s.Ok) : (pinS s).1.Ok := by
  unfold pinS
  split
  · split
    · exact h
    · exact ⟨h.1, h.2.1, by show 0 ≤ s.p + 1; have := h.2.2.1; omega, by show s.p + 1 ≤ 100; omega⟩
  · exact h
theorem unpinS_ok {s : FS} (h : s.Ok) : (unpinS s).1.Ok := by
  unfold unpinS
  split
  · exact h
  · exact ⟨h.1, h.2.1, by show 0 ≤ s.p - 1; omega, by show s.p - 1 ≤ 100; have := h.2.2.2; omega⟩
theorem loadS_ok {s : FS} (h : s.Ok) (pg : Int) {ys : List Int} (hy : Oct ys) : (loadS s pg ys).1.Ok := by
  unfold loadS
  split
  · rename_i hl; exact ⟨hl, hy, by show (0 : Int) ≤ 0; omega, by show (0 : Int) ≤ 100; omega⟩
  · exact h
theorem getS_ok {s : FS} (h : s.Ok) (off n : Int) : (getS s off n).1.Ok := by
  unfold getS
  split
  · exact h
  · split
    · exact ⟨h.1, h.2.1, h.2.2.1, h.2.2.2⟩
    · exact h
theorem putS_ok {s : FS} (h : s.Ok) (off : Int) {ys : List Int} (hy : Oct ys) : (putS s off ys).1.Ok := by
  unfold putS
  split
  · exact h
  · split
    · rename_i hz; exact ⟨putted_len h.1 hz, putted_oct h.2.1 hy off, h.2.2.1, h.2.2.2⟩
    · exact h


theorem rpinS_any (s : FS) (hs : s.Ok) (w : World) : Calls Try.prog 26 #[s.v] w fun e w' => e = .returned (.tuple #[(pinS s).1.v, .int .i64 (pinS s).2]) ∧ Grow w w' := by
  obtain ⟨u, d, r, p, q, bs⟩ := s
  obtain ⟨h1, h2, h3, h4⟩ := hs
  simp only at h1 h2 h3 h4
  cases u with
  | false => exact rpin_unused _ d r p q _ w rfl
  | true =>
    by_cases hp : 100 ≤ p
    · have e : pinS ⟨true, d, r, p, q, bs⟩ = (⟨true, d, r, p, q, bs⟩, 13) := by unfold pinS; rw [if_pos rfl, if_pos hp]
      rw [e]; exact rpin_full _ d r p q _ w rfl hp
    · have e : pinS ⟨true, d, r, p, q, bs⟩ = (⟨true, d, true, p + 1, q, bs⟩, 0) := by unfold pinS; rw [if_pos rfl, if_neg hp]
      rw [e]; exact rpin_yes _ d r p q _ w rfl h3 (by omega)
theorem runpinS_any (s : FS) (hs : s.Ok) (w : World) : Calls Try.prog 27 #[s.v] w fun e w' => e = .returned (.tuple #[(unpinS s).1.v, .int .i64 (unpinS s).2]) ∧ Grow w w' := by
  obtain ⟨u, d, r, p, q, bs⟩ := s
  obtain ⟨h1, h2, h3, h4⟩ := hs
  simp only at h1 h2 h3 h4
  by_cases hp : p ≤ 0
  · have e : unpinS ⟨u, d, r, p, q, bs⟩ = (⟨u, d, r, p, q, bs⟩, 6) := by unfold unpinS; rw [if_pos hp]
    rw [e]; exact runpin_no u d r p q _ w (by omega)
  · have e : unpinS ⟨u, d, r, p, q, bs⟩ = (⟨u, d, r, p - 1, q, bs⟩, 0) := by unfold unpinS; rw [if_neg hp]
    rw [e]; exact runpin_yes u d r p q _ w (by omega) h4
theorem rloadS_any (s : FS) (hs : s.Ok) (w : World) (pg : Int) (v : Value) (ys : List Int) (t : Nat → Prop) (hy : RdV (Value.int .u8) 0 t w v ys) : Calls Try.prog 30 #[s.v, .int .i64 pg, v] w fun e w' => e = .returned (.tuple #[(loadS s pg ys).1.v, .int .i64 (loadS s pg ys).2]) ∧ Grow w w' := by
  obtain ⟨u, d, r, p, q, bs⟩ := s
  clear hs
  have hyl := hy.len
  obtain ⟨a, c, rfl⟩ := hy.shape
  by_cases hl : ys.length = 32
  · have e : loadS ⟨u, d, r, p, q, bs⟩ pg ys = (⟨true, false, false, 0, pg, ys⟩, 0) := by unfold loadS; rw [if_pos hl]
    rw [e]
    rw [hl] at hy ⊢
    exact rload_yes u d r p q _ w pg a c ys t hy
  · have e : loadS ⟨u, d, r, p, q, bs⟩ pg ys = (⟨u, d, r, p, q, bs⟩, 2) := by unfold loadS; rw [if_neg hl]
    rw [e]; exact rload_no u d r p q _ w pg a _ c hl hyl
theorem rgetS_any (s : FS) (hs : s.Ok) (w : World) (off n : Int) (ho : (Lit.int .i64 off).wf = true) (hn : (Lit.int .i64 n).wf = true) : Calls Try.prog 28 #[s.v, .int .i64 off, .int .i64 n] w fun e w' => ∃ v', e = .returned (.tuple #[(getS s off n).1.v, v', .int .i64 (getS s off n).2.2]) ∧ RdV (Value.int .u8) 0 (fun i => w.heap.size ≤ i) w' v' (getS s off n).2.1 ∧ Grow w w' := by
  obtain ⟨u, d, r, p, q, bs⟩ := s
  obtain ⟨h1, h2, h3, h4⟩ := hs
  simp only at h1 h2 h3 h4
  by_cases hp : p ≤ 0
  · have e : getS ⟨u, d, r, p, q, bs⟩ off n = (⟨u, d, r, p, q, bs⟩, [], 6) := by unfold getS; rw [if_pos hp]
    rw [e]
    refine (qget_free u d r p q w bs off n (by omega)).mono ?_
    rintro e w' ⟨rfl, g⟩
    exact ⟨_, rfl, RdV.nil _ _ _ _ _ _ (Nat.zero_le _), g⟩
  · by_cases hz : (got bs off n).2 = 0
    · have e : getS ⟨u, d, r, p, q, bs⟩ off n = (⟨u, d, true, p, q, bs⟩, (got bs off n).1, 0) := by unfold getS; rw [if_neg hp, if_pos hz]
      rw [e]
      refine (qget_yes u d r p q w bs off n (got bs off n).1 h2 h1 (by omega) h4 ho hn (by rw [← hz])).mono ?_
      rintro e w' ⟨v, rfl, hv, g⟩
      exact ⟨_, rfl, hv.rd, g⟩
    · have e : getS ⟨u, d, r, p, q, bs⟩ off n = (⟨u, d, r, p, q, bs⟩, [], (got bs off n).2) := by unfold getS; rw [if_neg hp, if_neg hz]
      rw [e]
      refine (qget_err u d r p q w bs off n _ h2 h1 (by omega) h4 ho hn rfl hz).mono ?_
      rintro e w' ⟨rfl, g⟩
      exact ⟨_, rfl, RdV.nil _ _ _ _ _ _ (Nat.zero_le _), g⟩
theorem rputS_any (s : FS) (hs : s.Ok) (w : World) (off : Int) (v : Value) (ys : List Int) (t : Nat → Prop) (hy : RdV (Value.int .u8) 0 t w v ys) (ho : (Lit.int .i64 off).wf = true) : Calls Try.prog 29 #[s.v, .int .i64 off, v] w fun e w' => e = .returned (.tuple #[(putS s off ys).1.v, .int .i64 (putS s off ys).2]) ∧ Grow w w' := by
  obtain ⟨u, d, r, p, q, bs⟩ := s
  obtain ⟨h1, h2, h3, h4⟩ := hs
  simp only at h1 h2 h3 h4
  by_cases hp : p ≤ 0
  · have e : putS ⟨u, d, r, p, q, bs⟩ off ys = (⟨u, d, r, p, q, bs⟩, 6) := by unfold putS; rw [if_pos hp]
    rw [e]; exact qput_free u d r p q w bs off v (by omega)
  · by_cases hz : (putted bs off ys).2 = 0
    · have e : putS ⟨u, d, r, p, q, bs⟩ off ys = (⟨u, true, true, p, q, (putted bs off ys).1⟩, 0) := by unfold putS; rw [if_neg hp, if_pos hz]
      rw [e]; exact qput_yes u d r p q w bs off v ys (putted bs off ys).1 t hy h2 h1 (by omega) h4 ho (by rw [← hz])
    · have e : putS ⟨u, d, r, p, q, bs⟩ off ys = (⟨u, d, r, p, q, bs⟩, (putted bs off ys).2) := by unfold putS; rw [if_neg hp, if_neg hz]
      rw [e]; exact qput_err u d r p q w bs off _ v ys t hy h2 h1 (by omega) h4 ho rfl hz

theorem pinS_any (s : FS) (hs : s.Ok) (w : World) (b : Nat) (h : FrS w b s) : Calls Try.prog 16 #[.pointer (some ⟨b, 0, none⟩)] w fun e w' => e = .returned (.int .i64 (pinS s).2) ∧ FrS w' b (pinS s).1 ∧ UpdS (fun i => i = b) w w' := by
  obtain ⟨u, d, r, p, q, bs⟩ := s
  obtain ⟨h1, h2, h3, h4⟩ := hs
  simp only at h1 h2 h3 h4
  have h' : FrAt w b u d r p q bs := h
  cases u with
  | false =>
    refine (pin_unused w b _ d r p q bs h' rfl).mono ?_
    rintro e w' ⟨rfl, rfl⟩
    exact ⟨rfl, h, UpdS.refl _ _⟩
  | true =>
    by_cases hp : 100 ≤ p
    · have e : pinS ⟨true, d, r, p, q, bs⟩ = (⟨true, d, r, p, q, bs⟩, 13) := by unfold pinS; rw [if_pos rfl, if_pos hp]
      rw [e]
      refine (pin_full w b _ d r p q bs h' rfl hp).mono ?_
      rintro e w' ⟨rfl, rfl⟩
      exact ⟨rfl, h, UpdS.refl _ _⟩
    · have e : pinS ⟨true, d, r, p, q, bs⟩ = (⟨true, d, true, p + 1, q, bs⟩, 0) := by unfold pinS; rw [if_pos rfl, if_neg hp]
      rw [e]; exact pin_yes w b _ d r p q bs h' rfl h3 (by omega)
theorem unpinS_any (s : FS) (hs : s.Ok) (w : World) (b : Nat) (h : FrS w b s) : Calls Try.prog 18 #[.pointer (some ⟨b, 0, none⟩)] w fun e w' => e = .returned (.int .i64 (unpinS s).2) ∧ FrS w' b (unpinS s).1 ∧ UpdS (fun i => i = b) w w' := by
  obtain ⟨u, d, r, p, q, bs⟩ := s
  obtain ⟨h1, h2, h3, h4⟩ := hs
  simp only at h1 h2 h3 h4
  have h' : FrAt w b u d r p q bs := h
  by_cases hp : p ≤ 0
  · have e : unpinS ⟨u, d, r, p, q, bs⟩ = (⟨u, d, r, p, q, bs⟩, 6) := by unfold unpinS; rw [if_pos hp]
    rw [e]
    refine (unpin_no w b u d r p q bs h' hp).mono ?_
    rintro e w' ⟨rfl, rfl⟩
    exact ⟨rfl, h, UpdS.refl _ _⟩
  · have e : unpinS ⟨u, d, r, p, q, bs⟩ = (⟨u, d, r, p - 1, q, bs⟩, 0) := by unfold unpinS; rw [if_neg hp]
    rw [e]; exact unpin_yes w b u d r p q bs h' (by omega) h4
theorem loadS_any (s : FS) (hs : s.Ok) (w : World) (b : Nat) (h : FrS w b s) (pg : Int) (v : Value) (ys : List Int) (hy : RdV (Value.int .u8) 0 (fun i => i ≠ b) w v ys) : Calls Try.prog 17 #[.pointer (some ⟨b, 0, none⟩), .int .i64 pg, v] w fun e w' => e = .returned (.int .i64 (loadS s pg ys).2) ∧ FrS w' b (loadS s pg ys).1 ∧ UpdS (fun i => i = b) w w' := by
  obtain ⟨u, d, r, p, q, bs⟩ := s
  clear hs
  have h' : FrAt w b u d r p q bs := h
  have hyl := hy.len
  obtain ⟨a, c, rfl⟩ := hy.shape
  by_cases hl : ys.length = 32
  · have e : loadS ⟨u, d, r, p, q, bs⟩ pg ys = (⟨true, false, false, 0, pg, ys⟩, 0) := by unfold loadS; rw [if_pos hl]
    rw [e]
    rw [hl] at hy ⊢
    exact load_yes w b u d r p q bs h' pg a c ys hy
  · have e : loadS ⟨u, d, r, p, q, bs⟩ pg ys = (⟨u, d, r, p, q, bs⟩, 2) := by unfold loadS; rw [if_neg hl]
    rw [e]
    refine (load_no w b pg a _ c hl hyl).mono ?_
    rintro e w' ⟨rfl, rfl⟩
    exact ⟨rfl, h, UpdS.refl _ _⟩
theorem getS_any (s : FS) (hs : s.Ok) (w : World) (b : Nat) (h : FrS w b s) (off n : Int) (ho : (Lit.int .i64 off).wf = true) (hn : (Lit.int .i64 n).wf = true) : Calls Try.prog 23 #[.pointer (some ⟨b, 0, none⟩), .int .i64 off, .int .i64 n] w fun e w' => ∃ v', e = .returned (.tuple #[v', .int .i64 (getS s off n).2.2]) ∧ RdV (Value.int .u8) 0 (fun i => w.heap.size ≤ i) w' v' (getS s off n).2.1 ∧ FrS w' b (getS s off n).1 ∧ UpdS (fun i => i = b) w w' := by
  obtain ⟨u, d, r, p, q, bs⟩ := s
  obtain ⟨h1, h2, h3, h4⟩ := hs
  simp only at h1 h2 h3 h4
  have h' : FrAt w b u d r p q bs := h
  by_cases hp : p ≤ 0
  · have e : getS ⟨u, d, r, p, q, bs⟩ off n = (⟨u, d, r, p, q, bs⟩, [], 6) := by unfold getS; rw [if_pos hp]
    rw [e]
    refine (fget_free w b u d r p q bs h' off n hp).mono ?_
    rintro e w' ⟨rfl, rfl⟩
    exact ⟨_, rfl, RdV.nil _ _ _ _ _ _ (Nat.zero_le _), h, UpdS.refl _ _⟩
  · by_cases hz : (got bs off n).2 = 0
    · have e : getS ⟨u, d, r, p, q, bs⟩ off n = (⟨u, d, true, p, q, bs⟩, (got bs off n).1, 0) := by unfold getS; rw [if_neg hp, if_pos hz]
      rw [e]
      refine (fget_yes w b u d r p q bs h' off n (got bs off n).1 (by omega) ho hn (by rw [← hz])).mono ?_
      rintro e w' ⟨v, rfl, hv, hf, g⟩
      exact ⟨_, rfl, hv.rd, hf, g⟩
    · have e : getS ⟨u, d, r, p, q, bs⟩ off n = (⟨u, d, r, p, q, bs⟩, [], (got bs off n).2) := by unfold getS; rw [if_neg hp, if_neg hz]
      rw [e]
      refine (fget_err w b u d r p q bs h' off n _ (by omega) ho hn rfl hz).mono ?_
      rintro e w' ⟨rfl, g⟩
      exact ⟨_, rfl, RdV.nil _ _ _ _ _ _ (Nat.zero_le _), h'.grow g, g.s⟩
theorem putS_any (s : FS) (hs : s.Ok) (w : World) (b : Nat) (h : FrS w b s) (off : Int) (v : Value) (ys : List Int) (t : Nat → Prop) (hy : RdV (Value.int .u8) 0 t w v ys) (ho : (Lit.int .i64 off).wf = true) : Calls Try.prog 24 #[.pointer (some ⟨b, 0, none⟩), .int .i64 off, v] w fun e w' => e = .returned (.int .i64 (putS s off ys).2) ∧ FrS w' b (putS s off ys).1 ∧ UpdS (fun i => i = b) w w' := by
  obtain ⟨u, d, r, p, q, bs⟩ := s
  obtain ⟨h1, h2, h3, h4⟩ := hs
  simp only at h1 h2 h3 h4
  have h' : FrAt w b u d r p q bs := h
  by_cases hp : p ≤ 0
  · have e : putS ⟨u, d, r, p, q, bs⟩ off ys = (⟨u, d, r, p, q, bs⟩, 6) := by unfold putS; rw [if_pos hp]
    rw [e]
    refine (fput_free w b u d r p q bs h' off v hp).mono ?_
    rintro e w' ⟨rfl, rfl⟩
    exact ⟨rfl, h, UpdS.refl _ _⟩
  · by_cases hz : (putted bs off ys).2 = 0
    · have e : putS ⟨u, d, r, p, q, bs⟩ off ys = (⟨u, true, true, p, q, (putted bs off ys).1⟩, 0) := by unfold putS; rw [if_neg hp, if_pos hz]
      rw [e]; exact fput_yes w b u d r p q bs h' off v ys t (putted bs off ys).1 hy (by omega) ho (by rw [← hz]) (putted_len h1 hz)
    · have e : putS ⟨u, d, r, p, q, bs⟩ off ys = (⟨u, d, r, p, q, bs⟩, (putted bs off ys).2) := by unfold putS; rw [if_neg hp, if_neg hz]
      rw [e]
      refine (fput_err w b u d r p q bs h' off _ v ys t hy (by omega) ho rfl hz).mono ?_
      rintro e w' ⟨rfl, g⟩
      exact ⟨rfl, h'.grow g, g.s⟩
end Go.Proofs.Ytcmehefaceaioaa
