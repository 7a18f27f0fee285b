/-
  The calls of a frame that lies anywhere, as functions of what it has. Conditions: each theorem's own.
  A partition as numbers: where a page is, what each call makes of the frames. Conditions: each theorem's own.
  A partition as it lies in memory: its frames in a row, its hand; the walks of has, Find, Len, Hand. Conditions: each theorem's own.
  The walks of a partition's Clean, Release, Load. Conditions: each theorem's own.
-/
import Derived.Test.YtgpigllimoafaaaPrtA
import Derived.Test.YtgpigllimoafaaaFraS
import Derived.Test.YtgpigllimoafaaaClkG
import Derived.Test.YtgpigllimoafaaaEnds
import Derived.Deep.LoopGhost

/- The calls of a frame that lies anywhere, as functions of what it has. Conditions: each theorem's own. -/
namespace Go.Proofs.Ytgpigllimoafaaa
open Go.RowKit
set_option linter.unusedVariables false
set_option linter.unusedSimpArgs false

def FrX (w : World) (b o : Nat) (s : FS) : Prop := FrO w b o s.u s.d s.r s.p s.q s.bs

set_option maxHeartbeats 1000000 in
theorem oload_no (w : World) (b o : Nat) (pg : Int) (a : Option Addr) (n c : Nat) (hn : n ≠ 32) (hm : n ≤ maxLen) : Calls Try.prog 42 #[.pointer (some ⟨b, o, none⟩), .int .i64 pg, .slice a n c] w fun e w' => e = .returned (.int .i64 2) ∧ w = w' := by
  have hn' : ¬ (n : Int) = 32 := by omega
  unfold maxLen at hm
  clear hn
  go_enter Try.func42, Try.ntmps42
  go_wp2
  go_ret
  exact ⟨rfl, rfl⟩

theorem opinS_any (s : FS) (hs : s.Ok) (w : World) (b o : Nat) (h : FrX w b o s) : Calls Try.prog 44 #[.pointer (some ⟨b, o, none⟩)] w fun e w' => e = .returned (.int .i64 (pinS s).2) ∧ FrX w' b o (pinS s).1 ∧ UpdO b o 37 w w' := by
  obtain ⟨u, d, r, p, q, bs⟩ := s
  obtain ⟨h1, h2, h3, h4⟩ := hs
  simp only at h1 h2 h3 h4
  have h' : FrO w b o u d r p q bs := h
  cases u with
  | false =>
    refine (opin_unused w b o _ d r p q bs h' rfl).mono ?_
    rintro e w' ⟨rfl, rfl⟩
    exact ⟨rfl, h, UpdO.refl _ _ _ _⟩
  | true =>
    by_cases hp : 100 ≤ p
    · have e : pinS ⟨true, d, r, p, q, bs⟩ = (⟨true, d, r, p, q, bs⟩, 13) := by unfold pinS; rw [if_pos rfl, if_pos hp]
      rw [e]
      refine (opin_full w b o _ d r p q bs h' rfl hp).mono ?_
      rintro e w' ⟨rfl, rfl⟩
      exact ⟨rfl, h, UpdO.refl _ _ _ _⟩
    · have e : pinS ⟨true, d, r, p, q, bs⟩ = (⟨true, d, true, p + 1, q, bs⟩, 0) := by unfold pinS; rw [if_pos rfl, if_neg hp]
      rw [e]; exact opin_yes w b o _ d r p q bs h' rfl h3 (by omega)
theorem ounpinS_any (s : FS) (hs : s.Ok) (w : World) (b o : Nat) (h : FrX w b o s) : Calls Try.prog 47 #[.pointer (some ⟨b, o, none⟩)] w fun e w' => e = .returned (.int .i64 (unpinS s).2) ∧ FrX w' b o (unpinS s).1 ∧ UpdO b o 37 w w' := by
  obtain ⟨u, d, r, p, q, bs⟩ := s
  obtain ⟨h1, h2, h3, h4⟩ := hs
  simp only at h1 h2 h3 h4
  have h' : FrO w b o u d r p q bs := h
  by_cases hp : p ≤ 0
  · have e : unpinS ⟨u, d, r, p, q, bs⟩ = (⟨u, d, r, p, q, bs⟩, 6) := by unfold unpinS; rw [if_pos hp]
    rw [e]
    refine (ounpin_no w b o u d r p q bs h' hp).mono ?_
    rintro e w' ⟨rfl, rfl⟩
    exact ⟨rfl, h, UpdO.refl _ _ _ _⟩
  · have e : unpinS ⟨u, d, r, p, q, bs⟩ = (⟨u, d, r, p - 1, q, bs⟩, 0) := by unfold unpinS; rw [if_neg hp]
    rw [e]; exact ounpin_yes w b o u d r p q bs h' (by omega) h4
theorem oloadS_any (s : FS) (hs : s.Ok) (w : World) (b o : Nat) (h : FrX w b o s) (pg : Int) (v : Value) (ys : List Int) (hy : RdV (Value.int .u8) 0 (fun i => i ≠ b) w v ys) : Calls Try.prog 42 #[.pointer (some ⟨b, o, none⟩), .int .i64 pg, v] w fun e w' => e = .returned (.int .i64 (loadS s pg ys).2) ∧ FrX w' b o (loadS s pg ys).1 ∧ UpdO b o 37 w w' := by
  obtain ⟨u, d, r, p, q, bs⟩ := s
  clear hs
  have h' : FrO w b o u d r p q bs := h
  have hyl := hy.len
  obtain ⟨a, c, rfl⟩ := hy.shape
  by_cases hl : ys.length = 32
  · have e : loadS ⟨u, d, r, p, q, bs⟩ pg ys = (⟨true, false, false, 0, pg, ys⟩, 0) := by unfold loadS; rw [if_pos hl]
    rw [e]
    rw [hl] at hy ⊢
    exact oload_yes w b o u d r p q bs h' pg a c ys hy
  · have e : loadS ⟨u, d, r, p, q, bs⟩ pg ys = (⟨u, d, r, p, q, bs⟩, 2) := by unfold loadS; rw [if_neg hl]
    rw [e]
    refine (oload_no w b o pg a _ c hl hyl).mono ?_
    rintro e w' ⟨rfl, rfl⟩
    exact ⟨rfl, h, UpdO.refl _ _ _ _⟩
theorem oputS_any (s : FS) (hs : s.Ok) (w : World) (b o : Nat) (h : FrX w b o s) (off : Int) (v : Value) (ys : List Int) (t : Nat → Prop) (hy : RdV (Value.int .u8) 0 t w v ys) (ho : (Lit.int .i64 off).wf = true) : Calls Try.prog 45 #[.pointer (some ⟨b, o, none⟩), .int .i64 off, v] w fun e w' => e = .returned (.int .i64 (putS s off ys).2) ∧ FrX w' b o (putS s off ys).1 ∧ UpdO b o 37 w w' := by
  obtain ⟨u, d, r, p, q, bs⟩ := s
  obtain ⟨h1, h2, h3, h4⟩ := hs
  simp only at h1 h2 h3 h4
  have h' : FrO w b o u d r p q bs := h
  by_cases hp : p ≤ 0
  · have e : putS ⟨u, d, r, p, q, bs⟩ off ys = (⟨u, d, r, p, q, bs⟩, 6) := by unfold putS; rw [if_pos hp]
    rw [e]
    refine (ofput_free w b o u d r p q bs h' off v hp).mono ?_
    rintro e w' ⟨rfl, rfl⟩
    exact ⟨rfl, h, UpdO.refl _ _ _ _⟩
  · by_cases hz : (putted bs off ys).2 = 0
    · have e : putS ⟨u, d, r, p, q, bs⟩ off ys = (⟨u, true, true, p, q, (putted bs off ys).1⟩, 0) := by unfold putS; rw [if_neg hp, if_pos hz]
      rw [e]; exact ofput_yes w b o u d r p q bs h' off v ys t (putted bs off ys).1 hy (by omega) ho (by rw [← hz]) (putted_len h1 hz)
    · have e : putS ⟨u, d, r, p, q, bs⟩ off ys = (⟨u, d, r, p, q, bs⟩, (putted bs off ys).2) := by unfold putS; rw [if_neg hp, if_neg hz]
      rw [e]
      refine (ofput_err w b o u d r p q bs h' off _ v ys t hy (by omega) ho rfl hz).mono ?_
      rintro e w' ⟨rfl, g⟩
      exact ⟨rfl, h'.grow g, UpdO.grow h'.lt g⟩
theorem ofreeS_any (s : FS) (w : World) (b o : Nat) (h : FrX w b o s) : Calls Try.prog 52 #[.pointer (some ⟨b, o, none⟩)] w fun e w' => e = .returned (.bool (decide (s.p ≤ 0))) ∧ w = w' := ofree_any w b o _ _ _ _ _ _ h
theorem ozeroS_any (s : FS) (w : World) (b o : Nat) (h : FrX w b o s) : Calls Try.prog 51 #[.pointer (some ⟨b, o, none⟩)] w fun e w' => e = .returned (.tuple #[]) ∧ FrX w' b o FS.empty ∧ UpdO b o 37 w w' := ozero_any w b o _ _ _ _ _ _ h
end Go.Proofs.Ytgpigllimoafaaa

/- A partition as numbers: where a page is, what each call makes of the frames. Conditions: each theorem's own. -/
namespace Go.Proofs.Ytgpigllimoafaaa
open Go.RowKit
set_option linter.unusedVariables false
set_option linter.unusedSimpArgs false

theorem ext_at {α : Type} {d : α} {a b : List α} (hl : a.length = b.length) (h : ∀ i, i < a.length → a.getD i d = b.getD i d) : a = b := by
  apply List.ext_getElem hl
  intro i h1 h2
  have := h i h1
  simp only [List.getD, List.getElem?_eq_getElem h1, List.getElem?_eq_getElem h2, Option.getD_some] at this
  exact this
theorem getD_in {α : Type} {d : α} {l : List α} {i : Nat} (hi : i < l.length) : l.getD i d ∈ l := by
  simp [List.getD, List.getElem?_eq_getElem hi]
theorem getD_at {α : Type} {d : α} {l : List α} {i : Nat} (hi : i < l.length) : l.getD i d = l[i] := by
  simp [List.getD, List.getElem?_eq_getElem hi]
theorem getD_set {α : Type} {d : α} {l : List α} {i j : Nat} {x : α} (hj : j < l.length) : (l.set i x).getD j d = if i = j then x else l.getD j d := by
  simp only [List.getD, List.getElem?_set]
  split
  · rename_i e; subst e; simp [hj]
  · rfl
theorem set_id {α : Type} {d : α} {l : List α} {i : Nat} (hi : i < l.length) : l.set i (l.getD i d) = l := by
  rw [getD_at hi]; exact List.set_getElem_self hi

/-- is a frame of the page q? -/
def FS.of (q : Int) (s : FS) : Bool := s.u && (s.q == q)
/-- the first frame of the page q; or as many as there are -/
def fnd (q : Int) (L : List FS) : Nat := L.findIdx (FS.of q)
theorem fnd_le (q : Int) (L : List FS) : fnd q L ≤ L.length := List.findIdx_le_length
theorem fnd_of {q : Int} {L : List FS} (h : fnd q L < L.length) : (L.getD (fnd q L) FS.empty).of q = true := by
  rw [getD_at h]; exact List.findIdx_getElem
theorem fnd_not {q : Int} {L : List FS} {j : Nat} (h : j < fnd q L) : (L.getD j FS.empty).of q = false := by
  have hl : j < L.length := Nat.lt_of_lt_of_le h (fnd_le q L)
  rw [getD_at hl]
  exact List.not_of_lt_findIdx h
theorem fnd_is {q : Int} {L : List FS} {j : Nat} (h : j < L.length) (hj : (L.getD j FS.empty).of q = true) (hn : ∀ i, i < j → (L.getD i FS.empty).of q = false) : fnd q L = j := by
  have h1 : ¬ j < fnd q L := fun h1 => by rw [fnd_not h1] at hj; cases hj
  have h2 : ¬ fnd q L < j := fun h2 => by have := fnd_of (q := q) (L := L) (by omega); rw [hn _ h2] at this; cases this
  omega
theorem fnd_none {q : Int} {L : List FS} (hn : ∀ i, i < L.length → (L.getD i FS.empty).of q = false) : fnd q L = L.length := by
  have h2 : ¬ fnd q L < L.length := fun h2 => by have := fnd_of h2; rw [hn _ h2] at this; cases this
  have := fnd_le q L
  omega

/-- a frame's flags -/
def FS.fl (s : FS) : Fl := ⟨s.u, s.d, s.r, s.p⟩
/-- a frame with other flags -/
def FS.wf (s : FS) (x : Fl) : FS := ⟨x.u, x.d, x.r, x.p, s.q, s.bs⟩
theorem FS.wf_fl (s : FS) : s.wf s.fl = s := rfl
def flsL (L : List FS) : List Fl := L.map FS.fl
theorem flsL_len (L : List FS) : (flsL L).length = L.length := by simp [flsL]
theorem flsL_at {L : List FS} {i : Nat} (hi : i < L.length) : (flsL L).getD i Fl.zero = (L.getD i FS.empty).fl := by
  simp [flsL, List.getD, hi]
/-- frames with other flags -/
def wfL (L : List FS) (M : List Fl) : List FS := (List.range L.length).map (fun i => (L.getD i FS.empty).wf (M.getD i Fl.zero))
theorem wfL_len (L : List FS) (M : List Fl) : (wfL L M).length = L.length := by simp [wfL]
theorem wfL_at {L : List FS} {M : List Fl} {i : Nat} (hi : i < L.length) : (wfL L M).getD i FS.empty = (L.getD i FS.empty).wf (M.getD i Fl.zero) := by
  simp [wfL, List.getD, hi]
/-- frames of which those ahead of j have other flags -/
def wfTo (L : List FS) (M : List Fl) (j : Nat) : List FS := (List.range L.length).map (fun i => if i < j then (L.getD i FS.empty).wf (M.getD i Fl.zero) else L.getD i FS.empty)
theorem wfTo_len (L : List FS) (M : List Fl) (j : Nat) : (wfTo L M j).length = L.length := by simp [wfTo]
theorem wfTo_at {L : List FS} {M : List Fl} {j i : Nat} (hi : i < L.length) : (wfTo L M j).getD i FS.empty = if i < j then (L.getD i FS.empty).wf (M.getD i Fl.zero) else L.getD i FS.empty := by
  simp [wfTo, List.getD, hi]
theorem wfTo_zero (L : List FS) (M : List Fl) : wfTo L M 0 = L := ext_at (d := FS.empty) (wfTo_len _ _ _) (fun i hi => by
  rw [wfTo_len] at hi; rw [wfTo_at hi, if_neg (by omega)])
theorem wfTo_all (L : List FS) (M : List Fl) : wfTo L M L.length = wfL L M := ext_at (d := FS.empty) (by rw [wfTo_len, wfL_len]) (fun i hi => by
  rw [wfTo_len] at hi; rw [wfTo_at hi, wfL_at hi, if_pos hi])
theorem wfTo_succ {L : List FS} {M : List Fl} {j : Nat} (hj : j < L.length) : wfTo L M (j + 1) = (wfTo L M j).set j ((L.getD j FS.empty).wf (M.getD j Fl.zero)) := ext_at (d := FS.empty) (by rw [wfTo_len, List.length_set, wfTo_len]) (fun i hi => by
  rw [wfTo_len] at hi
  rw [getD_set (by rw [wfTo_len]; exact hi), wfTo_at hi, wfTo_at hi]
  by_cases e : j = i
  · subst e; rw [if_pos (by omega), if_pos rfl]
  · rw [if_neg e]
    by_cases h : i < j
    · rw [if_pos (by omega), if_pos h]
    · rw [if_neg (by omega), if_neg h])

/-- what a victim's choice makes of the frames -/
def vicL (L : List FS) (h : Nat) : List FS := wfL L (trn (flsL L) h).2
theorem vicL_len (L : List FS) (h : Nat) : (vicL L h).length = L.length := wfL_len _ _
theorem vicL_at {L : List FS} {h i : Nat} (hh : h < L.length) (hi : i < L.length) : (vicL L h).getD i FS.empty = L.getD i FS.empty ∨ (vicL L h).getD i FS.empty = (L.getD i FS.empty).wf (L.getD i FS.empty).fl.pass := by
  unfold vicL
  rw [wfL_at hi]
  rcases trn_each (l := flsL L) (h := h) (by rw [flsL_len]; exact hh) (i := i) (by rw [flsL_len]; exact hi) with e | e
  · rw [e, flsL_at hi]; exact .inl rfl
  · rw [e, flsL_at hi]; exact .inr rfl
/-- but the mark 'referred to' nothing of a frame turns -/
theorem vicL_is {L : List FS} {h i : Nat} (hh : h < L.length) (hi : i < L.length) : (vicL L h).getD i FS.empty = ⟨(L.getD i FS.empty).u, (L.getD i FS.empty).d, ((trn (flsL L) h).2.getD i Fl.zero).r, (L.getD i FS.empty).p, (L.getD i FS.empty).q, (L.getD i FS.empty).bs⟩ := by
  unfold vicL
  rw [wfL_at hi]
  rcases trn_each (l := flsL L) (h := h) (by rw [flsL_len]; exact hh) (i := i) (by rw [flsL_len]; exact hi) with e | e
  · rw [e, flsL_at hi]; rfl
  · rw [e, flsL_at hi]
    show FS.mk _ _ _ _ _ _ = FS.mk _ _ _ _ _ _
    rw [Fl.pass_u, Fl.pass_d, Fl.pass_p]; rfl
theorem trn_stays {l : List Fl} {h : Nat} (hh : h < l.length) (h0 : (trn l h).1 = 0) : (trn l h).2 = l := by
  rcases Nat.eq_zero_or_pos (freeN l) with e | e
  · rw [trn_none hh e]
  · obtain ⟨j, _, _, _, ht, _⟩ := trn_some hh e
    rw [ht] at h0; simp at h0
theorem vicL_none {L : List FS} {h : Nat} (hh : h < L.length) (h0 : (trn (flsL L) h).1 = 0) : vicL L h = L := ext_at (d := FS.empty) (vicL_len _ _) (fun i hi => by
  rw [vicL_len] at hi
  unfold vicL
  rw [trn_stays (by rw [flsL_len]; exact hh) h0, wfL_at hi, flsL_at hi]; rfl)

/-- what becomes of the frame of the page q -/
def onP (q : Int) (f : FS → FS × Int) (L : List FS) : List FS × Int := if fnd q L < L.length then (L.set (fnd q L) (f (L.getD (fnd q L) FS.empty)).1, (f (L.getD (fnd q L) FS.empty)).2) else (L, 6)
def getP (q off n : Int) (L : List FS) : List FS × List Int × Int := if fnd q L < L.length then (L.set (fnd q L) (getS (L.getD (fnd q L) FS.empty) off n).1, (getS (L.getD (fnd q L) FS.empty) off n).2) else (L, [], 6)
def inL (i : Int) (L : List FS) : Prop := 0 ≤ i ∧ i < L.length
def inB (i : Int) (L : List FS) : Bool := decide (0 ≤ i ∧ i < L.length)
theorem inB_yes {i : Int} {L : List FS} (h : inL i L) : inB i L = true := decide_eq_true (p := 0 ≤ i ∧ i < L.length) h
theorem inB_no {i : Int} {L : List FS} (h : ¬ inL i L) : inB i L = false := decide_eq_false (p := 0 ≤ i ∧ i < L.length) h
theorem inB_not {i : Int} {L : List FS} (h : ¬ inL i L) : ¬ inB i L = true := fun e => h (of_decide_eq_true (p := 0 ≤ i ∧ i < L.length) e)
def loadP (i q : Int) (ys : List Int) (L : List FS) : List FS × Int :=
  if inB i L = true then (if fnd q L < L.length ∧ (fnd q L : Int) ≠ i then (L, 1) else (L.set i.toNat (loadS (L.getD i.toNat FS.empty) q ys).1, (loadS (L.getD i.toNat FS.empty) q ys).2)) else (L, 1)
def relP (i : Int) (L : List FS) : List FS × Int := if inB i L = true then (if (L.getD i.toNat FS.empty).p ≤ 0 then (L.set i.toNat FS.empty, 0) else (L, 5)) else (L, 1)
def FS.clean (s : FS) : FS := ⟨s.u, false, s.r, s.p, s.q, s.bs⟩
def clnP (i : Int) (L : List FS) : List FS × Int := if inB i L = true then (L.set i.toNat (L.getD i.toNat FS.empty).clean, 0) else (L, 1)
def dirN (L : List FS) (j : Nat) : List Int := ((List.range j).filter (fun i => (L.getD i FS.empty).d)).map (fun (i : Nat) => (i : Int))
theorem dirN_succ (L : List FS) (j : Nat) : dirN L (j + 1) = dirN L j ++ (if (L.getD j FS.empty).d then [(j : Int)] else []) := by
  unfold dirN
  rw [List.range_succ, List.filter_append, List.map_append]
  congr 1
  by_cases h : (L.getD j FS.empty).d = true
  · rw [if_pos h]; simp only [List.filter, h, List.map_cons, List.map_nil]
  · rw [if_neg h]; simp only [List.filter, Bool.eq_false_iff.2 h, List.map_nil]
theorem dirN_len (L : List FS) (j : Nat) : (dirN L j).length ≤ j := by
  unfold dirN
  rw [List.length_map]
  refine Nat.le_trans (List.length_filter_le _ _) (by simp)
end Go.Proofs.Ytgpigllimoafaaa

/- A partition as it lies in memory: its frames in a row, its hand; the walks of has, Find, Len, Hand. Conditions: each theorem's own. -/
namespace Go.Proofs.Ytgpigllimoafaaa
open Go.RowKit
set_option linter.unusedVariables false
set_option linter.unusedSimpArgs false

theorem FrX.lt {w : World} {b o : Nat} {s : FS} (h : FrX w b o s) : b < w.heap.size := FrO.lt h
theorem FrX.upd {S : Nat → Prop} {w w' : World} {b o : Nat} {s : FS} (h : FrX w b o s) (hu : UpdS S w w') (hb : ¬ S b) : FrX w' b o s := FrO.upd h hu hb
theorem FrX.beside {b o o' : Nat} {w w' : World} {s : FS} (h : FrX w b o' s) (hu : UpdO b o 37 w w') (ha : o' + 37 ≤ o ∨ o + 37 ≤ o') : FrX w' b o' s := FrO.beside h hu ha
/-- a partition at P: its frames from o on in the block b -/
def PtO (w : World) (P b o : Nat) (L : List FS) (h : Nat) : Prop :=
  VarAt w P [.slice (some ⟨b, o, none⟩) L.length L.length, .int .i64 h] ∧ P ≠ b ∧ b < w.heap.size ∧ ∀ i, i < L.length → FrX w b (o + i * 37) (L.getD i FS.empty)
/-- what a partition's numbers are -/
def PtOk (L : List FS) (h : Nat) : Prop := (∀ s ∈ L, s.Ok) ∧ h < L.length ∧ L.length ≤ 64
theorem PtOk.at {L : List FS} {h i : Nat} (k : PtOk L h) (hi : i < L.length) : (L.getD i FS.empty).Ok := k.1 _ (getD_in hi)
theorem PtOk.set {L : List FS} {h i : Nat} {s : FS} (k : PtOk L h) (hs : s.Ok) : PtOk (L.set i s) h :=
  ⟨fun x hx => by
    rcases List.mem_or_eq_of_mem_set hx with h1 | h1
    · exact k.1 x h1
    · rw [h1]; exact hs, by rw [List.length_set]; exact k.2.1, by rw [List.length_set]; exact k.2.2⟩
section
variable {w w' : World} {P b o h : Nat} {L : List FS}
theorem PtO.lt (k : PtO w P b o L h) : P < w.heap.size := k.1.lt
theorem PtO.upd {S : Nat → Prop} (k : PtO w P b o L h) (hu : UpdS S w w') (hP : ¬ S P) (hb : ¬ S b) : PtO w' P b o L h :=
  ⟨k.1.upd hu hP, k.2.1, Nat.lt_of_lt_of_le k.2.2.1 hu.size, fun i hi => (k.2.2.2 i hi).upd hu hb⟩
theorem PtO.grow (k : PtO w P b o L h) (hu : Grow w w') : PtO w' P b o L h := k.upd (S := fun _ => False) hu.s (fun f => f) (fun f => f)
/-- one frame turned -/
theorem PtO.frame {i : Nat} {s : FS} (k : PtO w P b o L h) (hi : i < L.length) (hf : FrX w' b (o + i * 37) s) (hu : UpdO b (o + i * 37) 37 w w') : PtO w' P b o (L.set i s) h :=
  ⟨by rw [List.length_set]; exact k.1.upd hu.s k.2.1, k.2.1, Nat.lt_of_lt_of_le k.2.2.1 hu.s.size, fun j hj => by
    rw [List.length_set] at hj
    rw [getD_set hj]
    by_cases e : i = j
    · subst e; rw [if_pos rfl]; exact hf
    · rw [if_neg e]; exact (k.2.2.2 j hj).beside hu (by omega)⟩
theorem PtO.turn (k : PtO w P b o L h) (h' : Nat) : PtO (w.setCell ⟨P, 1, none⟩ (.int .i64 h')) P b o L h' :=
  ⟨k.1.set 1 _, k.2.1, by simpa using k.2.2.1, fun i hi => (k.2.2.2 i hi).upd (upd_one w P 1 _) (fun e => k.2.1 e.symm)⟩
theorem PtO.two (k : PtO w P b o L h) : (w.cell? ⟨P, 0, none⟩ = some (.slice (some ⟨b, o, none⟩) L.length L.length) ∧ w.cell? ⟨P, 1, none⟩ = some (.int .i64 h)) ∧ w.frozen? ⟨P, 0, none⟩ = false ∧ w.frozen? ⟨P, 1, none⟩ = false := k.1.two
end
theorem upd_p {P b o n : Nat} {w w' : World} (h : UpdO b o n w w') : UpdS (fun i => i = P ∨ i = b) w w' := h.s.mono (fun i hi => .inr hi)

/-- what Find tells -/
def fndI (q : Int) (L : List FS) : Int := if fnd q L < L.length then (fnd q L : Int) else 0
def fndB (q : Int) (L : List FS) : Bool := decide (fnd q L < L.length)
theorem fnd_yes {q : Int} {L : List FS} (h : fnd q L < L.length) : fndI q L = (fnd q L : Int) ∧ fndB q L = true := ⟨if_pos h, decide_eq_true h⟩
theorem fnd_no {q : Int} {L : List FS} (h : ¬ fnd q L < L.length) : fndI q L = 0 ∧ fndB q L = false := ⟨if_neg h, decide_eq_false h⟩
theorem in_yes {i : Nat} {L : List FS} (hi : i < L.length) : inL (i : Int) L := ⟨by omega, by omega⟩


set_option maxHeartbeats 1000000 in
theorem len_any (w : World) (P b o : Nat) (L : List FS) (h : Nat) (k : PtO w P b o L h) : Calls Try.prog 22 #[.pointer (some ⟨P, 0, none⟩)] w fun e w' => e = .returned (.int .i64 L.length) ∧ w = w' := by
  obtain ⟨⟨c0, -⟩, -⟩ := k.two
  clear k
  go_enter Try.func22, Try.ntmps22
  go_wp2
  go_ret
  exact ⟨rfl, rfl⟩
set_option maxHeartbeats 1000000 in
theorem has_any (w : World) (P b o : Nat) (L : List FS) (h : Nat) (k : PtO w P b o L h) (i : Int) : Calls Try.prog 40 #[.pointer (some ⟨P, 0, none⟩), .int .i64 i] w fun e w' => e = .returned (.bool (inB i L)) ∧ w = w' := by
  obtain ⟨⟨c0, -⟩, -⟩ := k.two
  have HR : Hid (inB i L = (decide (0 ≤ i) && decide (i < L.length))) := by
    show inB i L = _
    unfold inB
    exact Bool.decide_and _ _
  clear k
  by_cases h0 : 0 ≤ i
  · by_cases h1 : i < L.length
    · have HR' : Hid (inB i L = true) := by show _ = _; rw [HR.out, decide_eq_true h0, decide_eq_true h1]; rfl
      clear HR
      go_enter Try.func40, Try.ntmps40
      go_wp2
      go_ret
      exact ⟨by rw [HR'.out]; rfl, rfl⟩
    · have HR' : Hid (inB i L = false) := by show _ = _; rw [HR.out, decide_eq_false h1, Bool.and_false]
      clear HR
      go_enter Try.func40, Try.ntmps40
      go_wp2
      go_ret
      exact ⟨by rw [HR'.out]; rfl, rfl⟩
  · have HR' : Hid (inB i L = false) := by show _ = _; rw [HR.out, decide_eq_false h0]; rfl
    clear HR
    go_enter Try.func40, Try.ntmps40
    go_wp2
    go_ret
    exact ⟨by rw [HR'.out]; rfl, rfl⟩
set_option maxHeartbeats 2000000 in
theorem find_any (w : World) (P b o : Nat) (L : List FS) (h : Nat) (k : PtO w P b o L h) (hL : L.length ≤ 64) (q : Int) : Calls Try.prog 41 #[.pointer (some ⟨P, 0, none⟩), .int .i64 q] w fun e w' => e = .returned (.tuple #[.int .i64 (fndI q L), .bool (fndB q L)]) ∧ w = w' := by
  obtain ⟨⟨c0, -⟩, -⟩ := k.two
  have HC : Hid (∀ j, j < L.length → (w.cell? ⟨b, o + j * 37, none⟩ = some (.bool (L.getD j FS.empty).u) ∧ w.cell? ⟨b, o + j * 37 + 4, none⟩ = some (.int .i64 (L.getD j FS.empty).q))) := fun j hj => ⟨(FrO.five (k.2.2.2 j hj)).1.1, (FrO.five (k.2.2.2 j hj)).1.2.2.2.2⟩
  have HF : Hid (fnd q L ≤ L.length ∧ (∀ j, j < fnd q L → (L.getD j FS.empty).of q = false) ∧ (fnd q L < L.length → (L.getD (fnd q L) FS.empty).of q = true)) := ⟨fnd_le q L, fun j hj => fnd_not hj, fnd_of⟩
  clear k
  go_enter Try.func41, Try.ntmps41
  go_wp2
  go_loopg [12] L.length (fun m iv wr => ∃ j : Nat, m = L.length - j ∧ j ≤ L.length ∧ iv = .int .i64 j ∧ wr = w ∧ Hid (j ≤ fnd q L))
  case atStart => exact ⟨0, rfl, by omega, rfl, rfl, Nat.zero_le _⟩
  case round =>
    obtain ⟨j, hj, hj2, rfl, hww, HJ⟩ := hrel
    subst hww
    have HK : Hid (gk = L.length - j) := hj
    clear hj
    by_cases hlt : j < L.length
    · have hle : (j : Int) < (L.length : Int) := by omega
      obtain ⟨cu, cq⟩ := HC.out j hlt
      have hw0 : IntKind.i64.wrap ((j : Int) + 1) = ((j + 1 : Nat) : Int) := by rw [IntKind.wrap_i64]; omega
      have HO : Hid ((L.getD j FS.empty).of q = ((L.getD j FS.empty).u && ((L.getD j FS.empty).q == q))) := rfl
      have HI : Hid (j < L.length) := hlt
      obtain ⟨u, hu⟩ : ∃ u, (L.getD j FS.empty).u = u := ⟨_, rfl⟩
      obtain ⟨pq, hpq⟩ : ∃ pq, (L.getD j FS.empty).q = pq := ⟨_, rfl⟩
      rw [hu] at cu HO
      rw [hpq] at cq HO
      clear hu hpq
      have go_on : ∀ (ho : (L.getD j FS.empty).of q = false), j + 1 ≤ fnd q L := fun ho => by
        have h1 := HJ.out
        rcases Nat.lt_or_ge j (fnd q L) with h2 | h2
        · omega
        · have e : j = fnd q L := by omega
          have := HF.out.2.2 (by omega)
          rw [← e, ho] at this; cases this
      cases u with
      | false =>
        have HN : Hid (j + 1 ≤ fnd q L) := go_on HO.out
        clear go_on HO HJ hlt
        go_wp2
        go_roundg (L.length - (j + 1))
        case measure => have := HK.out; have := HI.out; omega
        case rel => exact ⟨j + 1, rfl, by have := HI.out; omega, by go_num, rfl, HN⟩
      | true =>
        cases hq : (pq == q) with
        | false =>
          have HN : Hid (j + 1 ≤ fnd q L) := go_on (by rw [HO.out, hq]; rfl)
          clear go_on HO HJ hlt
          go_wp2
          go_roundg (L.length - (j + 1))
          case measure => have := HK.out; have := HI.out; omega
          case rel => exact ⟨j + 1, rfl, by have := HI.out; omega, by go_num, rfl, HN⟩
        | true =>
          have HE : Hid (fnd q L = j) := by
            show fnd q L = j
            have h1 := HJ.out
            rcases Nat.lt_or_ge j (fnd q L) with h2 | h2
            · have h3 := HF.out.2.1 j h2
              rw [HO.out, hq] at h3; cases h3
            · omega
          clear go_on HO HJ hlt
          go_wp2
          go_ret2
          refine ⟨?_, rfl⟩
          have hf := fnd_yes (q := q) (L := L) (by rw [HE.out]; exact HI.out)
          rw [hf.1, hf.2, HE.out]; rfl
    · have hge : ¬ (j : Int) < (L.length : Int) := by omega
      have HE : Hid (¬ fnd q L < L.length) := by show ¬ _; have := HJ.out; omega
      clear hlt HJ
      go_wp2
      go_ret2
      refine ⟨?_, rfl⟩
      have hf := fnd_no HE.out
      rw [hf.1, hf.2]; rfl
end Go.Proofs.Ytgpigllimoafaaa

/- The walks of a partition's Clean, Release, Load. Conditions: each theorem's own. -/
namespace Go.Proofs.Ytgpigllimoafaaa
open Go.RowKit
set_option linter.unusedVariables false
set_option linter.unusedSimpArgs false

theorem nat_of {i : Int} {L : List FS} (h : inL i L) : ∃ m : Nat, i = (m : Int) ∧ m < L.length := ⟨i.toNat, by have := h.1; omega, by have := h.1; have := h.2; omega⟩
theorem relP_yes {m : Nat} {L : List FS} (hm : m < L.length) (hp : (L.getD m FS.empty).p ≤ 0) : relP (m : Int) L = (L.set m FS.empty, 0) := by
  unfold relP; rw [if_pos (inB_yes (in_yes hm))]; simp only [Int.toNat_natCast]; rw [if_pos hp]
theorem relP_pin {m : Nat} {L : List FS} (hm : m < L.length) (hp : ¬ (L.getD m FS.empty).p ≤ 0) : relP (m : Int) L = (L, 5) := by
  unfold relP; rw [if_pos (inB_yes (in_yes hm))]; simp only [Int.toNat_natCast]; rw [if_neg hp]
theorem relP_no {i : Int} {L : List FS} (hm : ¬ inL i L) : relP i L = (L, 1) := if_neg (inB_not hm)
theorem clnP_yes {m : Nat} {L : List FS} (hm : m < L.length) : clnP (m : Int) L = (L.set m (L.getD m FS.empty).clean, 0) := by
  unfold clnP; rw [if_pos (inB_yes (in_yes hm))]; simp only [Int.toNat_natCast]
theorem clnP_no {i : Int} {L : List FS} (hm : ¬ inL i L) : clnP i L = (L, 1) := if_neg (inB_not hm)
theorem loadP_no {i q : Int} {ys : List Int} {L : List FS} (hm : ¬ inL i L) : loadP i q ys L = (L, 1) := if_neg (inB_not hm)
theorem loadP_other {m : Nat} {q : Int} {ys : List Int} {L : List FS} (hm : m < L.length) (h : fnd q L < L.length) (hn : fnd q L ≠ m) : loadP (m : Int) q ys L = (L, 1) := by
  unfold loadP; rw [if_pos (inB_yes (in_yes hm)), if_pos ⟨h, by omega⟩]
theorem loadP_yes {m : Nat} {q : Int} {ys : List Int} {L : List FS} (hm : m < L.length) (h : ¬ (fnd q L < L.length ∧ fnd q L ≠ m)) : loadP (m : Int) q ys L = (L.set m (loadS (L.getD m FS.empty) q ys).1, (loadS (L.getD m FS.empty) q ys).2) := by
  unfold loadP; rw [if_pos (inB_yes (in_yes hm)), if_neg (fun e => h ⟨e.1, by have := e.2; omega⟩)]; simp only [Int.toNat_natCast]

set_option maxHeartbeats 2000000 in
theorem load_any (w : World) (P b o : Nat) (L : List FS) (h : Nat) (k : PtO w P b o L h) (hk : PtOk L h) (i q : Int) (v : Value) (ys : List Int) (hy : RdV (Value.int .u8) 0 (fun i => i ≠ P ∧ i ≠ b) w v ys) : Calls Try.prog 24 #[.pointer (some ⟨P, 0, none⟩), .int .i64 i, .int .i64 q, v] w fun e w' => e = .returned (.int .i64 (loadP i q ys L).2) ∧ PtO w' P b o (loadP i q ys L).1 h ∧ UpdS (fun i => i = P ∨ i = b) w w' := by
  have hh := has_any w P b o L h k i
  have hfi := find_any w P b o L h k hk.2.2 q
  obtain ⟨a, c, hv⟩ := hy.shape
  by_cases hi : inL i L
  · obtain ⟨m, rfl, hm⟩ := nat_of hi
    rw [inB_yes hi] at hh
    have hF := k.2.2.2 m hm
    have hl := oloadS_any _ (hk.at hm) w b _ hF q v ys (hy.mono (fun i _ hi => hi.2))
    have HK : Hid (PtO w P b o L h ∧ m < L.length) := ⟨k, hm⟩
    obtain ⟨⟨c0, -⟩, -⟩ := k.two
    have hle : (m : Int) < (L.length : Int) := by omega
    by_cases hf : fnd q L < L.length
    · rw [(fnd_yes hf).1, (fnd_yes hf).2] at hfi
      by_cases hn : fnd q L = m
      · rw [loadP_yes hm (fun e => e.2 hn)]
        rw [hn] at hfi
        generalize loadS (L.getD m FS.empty) q ys = T at hl ⊢
        obtain ⟨s', E⟩ := T
        have hne : ((m : Int) != (m : Int)) = false := by simp
        subst hv
        clear hF k hi hk hm hn hf hy
        go_enter Try.func24, Try.ntmps24
        go_wp2_with fail
        refine hh.mono ?_
        rintro e w1 ⟨rfl, rfl⟩
        go_wp2_with fail
        refine hfi.mono ?_
        rintro e w1 ⟨rfl, rfl⟩
        go_wp2_with fail
        refine hl.mono ?_
        rintro e w2 ⟨rfl, F2, u2⟩
        have HF : Hid (PtO w2 P b o (L.set m s') h ∧ UpdS (fun i => i = P ∨ i = b) w w2) := ⟨HK.out.1.frame HK.out.2 F2 u2, upd_p u2⟩
        clear F2 u2 hl hfi hh c0
        go_wp2
        go_ret
        exact ⟨rfl, HF.out⟩
      · rw [loadP_other hm hf hn]
        have hne : ((fnd q L : Int) != (m : Int)) = true := by rw [bne_iff_ne]; omega
        generalize fnd q L = z at hfi hne
        subst hv
        clear hF k hi hk hm hn hf hy hl
        go_enter Try.func24, Try.ntmps24
        go_wp2_with fail
        refine hh.mono ?_
        rintro e w1 ⟨rfl, rfl⟩
        go_wp2_with fail
        refine hfi.mono ?_
        rintro e w1 ⟨rfl, rfl⟩
        go_wp2
        go_ret
        exact ⟨rfl, HK.out.1, UpdS.refl _ _⟩
    · rw [(fnd_no hf).1, (fnd_no hf).2] at hfi
      rw [loadP_yes hm (fun e => hf e.1)]
      generalize loadS (L.getD m FS.empty) q ys = T at hl ⊢
      obtain ⟨s', E⟩ := T
      subst hv
      clear hF k hi hk hm hf hy
      go_enter Try.func24, Try.ntmps24
      go_wp2_with fail
      refine hh.mono ?_
      rintro e w1 ⟨rfl, rfl⟩
      go_wp2_with fail
      refine hfi.mono ?_
      rintro e w1 ⟨rfl, rfl⟩
      go_wp2_with fail
      refine hl.mono ?_
      rintro e w2 ⟨rfl, F2, u2⟩
      have HF : Hid (PtO w2 P b o (L.set m s') h ∧ UpdS (fun i => i = P ∨ i = b) w w2) := ⟨HK.out.1.frame HK.out.2 F2 u2, upd_p u2⟩
      clear F2 u2 hl hfi hh c0
      go_wp2
      go_ret
      exact ⟨rfl, HF.out⟩
  · rw [inB_no hi] at hh
    rw [loadP_no hi]
    have HK : Hid (PtO w P b o L h) := k
    subst hv
    clear hi k hk hy hfi
    go_enter Try.func24, Try.ntmps24
    go_wp2_with fail
    refine hh.mono ?_
    rintro e w1 ⟨rfl, rfl⟩
    go_wp2
    go_ret
    exact ⟨rfl, HK.out, UpdS.refl _ _⟩
end Go.Proofs.Ytgpigllimoafaaa
