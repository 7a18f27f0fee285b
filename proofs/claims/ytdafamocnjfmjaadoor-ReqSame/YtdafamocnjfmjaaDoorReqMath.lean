/-
  Requests as numbers: the operations' names, which fields they name, what is wrong with one, one of which a field is another one's. Conditions: each theorem's own.
-/
import Derived.Test.YtdafamocnjfmjaaDoorReqBase
namespace Go.Proofs.YtdafamocnjfmjaaDoor
open Go.RowKit
set_option linter.unusedVariables false

theorem hid {p : Prop} (h : p) : Hid p := h
/-- the operations' names -/
def nm : Nat → ByteArray
  | 1 => ⟨#[102, 101, 116, 99, 104]⟩
  | 2 => ⟨#[114, 101, 97, 100]⟩
  | 3 => ⟨#[119, 114, 105, 116, 101]⟩
  | 4 => ⟨#[117, 110, 112, 105, 110]⟩
  | 5 => ⟨#[102, 108, 117, 115, 104]⟩
  | 6 => ⟨#[102, 108, 117, 115, 104, 97, 108, 108]⟩
  | 7 => ⟨#[100, 105, 115, 99, 97, 114, 100]⟩
  | 8 => ⟨#[115, 116, 97, 116, 115]⟩
  | _ => ⟨#[]⟩
def nmI (n : Int) : ByteArray := if 1 ≤ n ∧ n ≤ 8 then nm n.toNat else ⟨#[]⟩
theorem nmI_no {n : Int} (h : ¬ (1 ≤ n ∧ n ≤ 8)) : nmI n = ⟨#[]⟩ := if_neg h
theorem nmI_yes {k : Nat} (h0 : 1 ≤ k) (h : k ≤ 8) : nmI (k : Int) = nm k := by
  unfold nmI
  rw [if_pos (by omega)]
  rfl
theorem ba_beq (a b : ByteArray) : (a.toList == b.toList) = decide (a = b) := by
  by_cases h : a = b
  · subst h; simp
  · rw [decide_eq_false h]
    refine beq_eq_false_iff_ne.2 fun e => h ?_
    rw [ByteArray.toList_eq, ByteArray.toList_eq] at e
    have e' := Array.toList_inj.1 e
    cases a; cases b
    simp only at e'
    rw [e']
theorem nm_some {k : Nat} (h0 : 1 ≤ k) (h : k ≤ 8) : nm k ≠ ⟨#[]⟩ := by
  rcases (show k = 1 ∨ k = 2 ∨ k = 3 ∨ k = 4 ∨ k = 5 ∨ k = 6 ∨ k = 7 ∨ k = 8 by omega) with rfl | rfl | rfl | rfl | rfl | rfl | rfl | rfl <;> (intro e; have := congrArg (fun b : ByteArray => b.data.size) e; revert this; decide)

/-- which fields an operation names: Page 0, Off 1, Len 2, Data 3 -/
def nsOf : Nat → List Int
  | 1 => [0]
  | 2 => [0, 1, 2]
  | 3 => [0, 1, 3]
  | 4 => [0]
  | 5 => [0]
  | 7 => [0]
  | _ => []

/-- a request -/
structure Rq where
  o : Int
  p : Int
  f : Int
  l : Int
  z : List Int
def Rq.ofL (o p f l : Int) (z : List Int) : Rq := ⟨o, p, f, l, z⟩
/-- its numbers are such as an int has, its Data is bytes, not too many -/
def Rq.Ok (q : Rq) (m : Nat) : Prop := (Lit.int .i64 q.o).wf = true ∧ (Lit.int .i64 q.p).wf = true ∧ (Lit.int .i64 q.f).wf = true ∧ (Lit.int .i64 q.l).wf = true ∧ Oct q.z ∧ q.z.length ≤ m

/-- is that field zero -/
def zeB (p f l : Int) (n : Nat) (j : Int) : Bool := if j = 0 then decide (p = 0) else if j = 1 then decide (f = 0) else if j = 2 then decide (l = 0) else decide (n = 0)
/-- is all that is not named zero -/
def fmB (ns : List Int) (p f l : Int) (n : Nat) : Bool := decide (∀ j : Nat, j < 4 → (j : Int) ∈ ns ∨ zeB p f l n j = true)
/-- what is wrong with a request -/
def ckE (o p f l : Int) (n : Nat) (pages : Int) : Int :=
  if o < 1 ∨ 8 < o then 2
  else if (¬ (o ≠ 6 ∧ o ≠ 8) ∧ p ≠ 0) ∨ (¬ (o = 2 ∨ o = 3) ∧ f ≠ 0) ∨ (o ≠ 2 ∧ l ≠ 0) ∨ (o ≠ 3 ∧ 0 < n) then 2
  else if (o ≠ 6 ∧ o ≠ 8) ∧ (p < 0 ∨ pages ≤ p) then 4
  else if (o = 2 ∨ o = 3) ∧ (f < 0 ∨ 32 < f) then 4
  else if o = 2 ∧ (l < 0 ∨ 32 - f < l) then 4
  else if o = 3 ∧ 32 - f < n then 4
  else 0
/-- the same, by what is named -/
def ckP (k : Nat) (p f l : Int) (n : Nat) (pages : Int) : Int :=
  if fmB (nsOf k) p f l n = false then 2
  else if (0 : Int) ∈ nsOf k ∧ (p < 0 ∨ pages ≤ p) then 4
  else if ¬ (0 ≤ f ∧ 0 ≤ l + n ∧ l + n ≤ 32 - f) then 4 else 0
theorem fmB_eq (ns : List Int) (p f l : Int) (n : Nat) : fmB ns p f l n = decide (((0 : Int) ∈ ns ∨ p = 0) ∧ ((1 : Int) ∈ ns ∨ f = 0) ∧ ((2 : Int) ∈ ns ∨ l = 0) ∧ ((3 : Int) ∈ ns ∨ n = 0)) := by
  unfold fmB
  refine decide_eq_decide.2 ⟨fun h => ⟨?_, ?_, ?_, ?_⟩, fun ⟨h0, h1, h2, h3⟩ j hj => ?_⟩
  · simpa [zeB] using h 0 (by omega)
  · simpa [zeB] using h 1 (by omega)
  · simpa [zeB] using h 2 (by omega)
  · simpa [zeB] using h 3 (by omega)
  · rcases (show j = 0 ∨ j = 1 ∨ j = 2 ∨ j = 3 by omega) with rfl | rfl | rfl | rfl
    · simpa [zeB] using h0
    · simpa [zeB] using h1
    · simpa [zeB] using h2
    · simpa [zeB] using h3
theorem ckP_eq (k : Nat) (h0 : 1 ≤ k) (h : k ≤ 8) (p f l : Int) (n : Nat) (pages : Int) : ckP k p f l n pages = ckE k p f l n pages := by
  unfold ckP ckE
  rw [fmB_eq]
  rcases (show k = 1 ∨ k = 2 ∨ k = 3 ∨ k = 4 ∨ k = 5 ∨ k = 6 ∨ k = 7 ∨ k = 8 by omega) with rfl | rfl | rfl | rfl | rfl | rfl | rfl | rfl
  all_goals
    simp [nsOf]
    repeat' split
    all_goals (first | rfl | omega)
theorem ckE_no {o : Int} (h : ¬ (1 ≤ o ∧ o ≤ 8)) (p f l : Int) (n : Nat) (pages : Int) : ckE o p f l n pages = 2 := if_pos (by omega)
theorem ckP_form {k : Nat} {p f l : Int} {n : Nat} (h : fmB (nsOf k) p f l n = false) (pages : Int) : ckP k p f l n pages = 2 := if_pos h
/-- of the right form: no Len and Data together -/
theorem fm_size {k : Nat} (h0 : 1 ≤ k) (h : k ≤ 8) {p f l : Int} {n : Nat} (hf : fmB (nsOf k) p f l n = true) : l = 0 ∨ n = 0 := by
  rw [fmB_eq] at hf
  have hf' := of_decide_eq_true hf
  rcases (show k = 1 ∨ k = 2 ∨ k = 3 ∨ k = 4 ∨ k = 5 ∨ k = 6 ∨ k = 7 ∨ k = 8 by omega) with rfl | rfl | rfl | rfl | rfl | rfl | rfl | rfl
  all_goals
    simp [nsOf] at hf'
    omega

/-- n bytes from f on are in a page -/
def inB (f n : Int) : Bool := decide (0 ≤ f ∧ 0 ≤ n ∧ n ≤ 32 - f)
theorem inB_yes {f n : Int} (h : 0 ≤ f ∧ 0 ≤ n ∧ n ≤ 32 - f) : inB f n = true := decide_eq_true h
theorem inB_no {f n : Int} (h : ¬ (0 ≤ f ∧ 0 ≤ n ∧ n ≤ 32 - f)) : inB f n = false := decide_eq_false h

/-- what Good makes of a request -/
def gOp (x : Int) : Int := ([1, 1, 1, 2, 2, 3, 3, 3, 4, 4, 5, 6, 7, 8] : List Int).getD x.toNat 0
theorem gOp_bd {x : Int} (h0 : 0 ≤ x) (h : x < 14) : 1 ≤ gOp x ∧ gOp x ≤ 8 := by
  obtain ⟨n, rfl⟩ := Int.eq_ofNat_of_zero_le h0
  rcases (show n = 0 ∨ n = 1 ∨ n = 2 ∨ n = 3 ∨ n = 4 ∨ n = 5 ∨ n = 6 ∨ n = 7 ∨ n = 8 ∨ n = 9 ∨ n = 10 ∨ n = 11 ∨ n = 12 ∨ n = 13 by omega) with rfl | rfl | rfl | rfl | rfl | rfl | rfl | rfl | rfl | rfl | rfl | rfl | rfl | rfl <;> decide

/-- one of which a field is another one's -/
def oddQ (g r : Rq) (j : Int) : Rq :=
  if j = 0 then { g with o := r.o } else if j = 1 then { g with p := r.p } else if j = 2 then { g with f := r.f } else if j = 3 then { g with l := r.l } else { g with z := r.z.take 34 }
theorem Rq.Ok.odd {g r : Rq} {m m2 : Nat} (hg : g.Ok m) (hr : r.Ok m2) (hm : 34 ≤ m) (j : Int) : (oddQ g r j).Ok m := by
  obtain ⟨g1, g2, g3, g4, g5, g6⟩ := hg
  obtain ⟨r1, r2, r3, r4, r5, r6⟩ := hr
  unfold oddQ
  by_cases h0 : j = 0
  · rw [if_pos h0]; exact ⟨r1, g2, g3, g4, g5, g6⟩
  rw [if_neg h0]
  by_cases h1 : j = 1
  · rw [if_pos h1]; exact ⟨g1, r2, g3, g4, g5, g6⟩
  rw [if_neg h1]
  by_cases h2 : j = 2
  · rw [if_pos h2]; exact ⟨g1, g2, r3, g4, g5, g6⟩
  rw [if_neg h2]
  by_cases h3 : j = 3
  · rw [if_pos h3]; exact ⟨g1, g2, g3, r4, g5, g6⟩
  rw [if_neg h3]
  exact ⟨g1, g2, g3, g4, r5.take 34, by show (r.z.take 34).length ≤ m; rw [List.length_take]; omega⟩
/-- are two the same -/
def smB (a b : Rq) : Bool := decide (a.o = b.o ∧ a.p = b.p ∧ a.f = b.f ∧ a.l = b.l ∧ a.z = b.z)
theorem smB_self (a : Rq) : smB a a = true := by simp [smB]
end Go.Proofs.YtdafamocnjfmjaaDoor
