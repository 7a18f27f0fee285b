/-
  Superblocks as numbers: which may be, their bytes, what is read of those. Conditions: each theorem's own.
-/
import Derived.Test.YtlcphhlimcnnaaaCfgMath
import Derived.Test.YtlcphhlimcnnaaaCrcFacts
import Derived.Test.YtlcphhlimcnnaaaLayReader
namespace Go.Proofs.Ytlcphhlimcnnaaa
open Go.RowKit
set_option linter.unusedVariables false

/-- may it be? -/
def mayS (ep fr dp se : Int) (ps : List Pt) : Bool := decide (1 ≤ ep) && (decide (ep ≤ 1073741824) && decide ((ck fr dp se ps).1 = 0))
/-- are two the same? -/
def sameS (e1 f1 d1 s1 : Int) (ps : List Pt) (e2 f2 d2 s2 : Int) (qs : List Pt) : Bool := (e1 == e2) && sameG f1 d1 s1 ps f2 d2 s2 qs
theorem mayS_good {ep fr dp se : Int} {ps : List Pt} (h1 : 1 ≤ ep) (h2 : ep ≤ 1073741824) (h : GoodC fr dp se ps) : mayS ep fr dp se ps = true := by
  simp [mayS, h1, h2, h.okc]
theorem sameS_self (e f d s : Int) (ps : List Pt) : sameS e f d s ps e f d s ps = true := by simp [sameS, sameG_self]

/-- a part's numbers -/
def pnum (p : Pt) : List Int := [p.q, p.b, p.g]
/-- parts' numbers -/
def pnums (ps : List Pt) : List Int := ps.flatMap pnum
/-- a superblock's numbers -/
def nums (ep fr dp se : Int) (ps : List Pt) : List Int := [1, ep, fr, dp, se, (ps.length : Int)] ++ pnums ps
theorem pnums_length (ps : List Pt) : (pnums ps).length = 3 * ps.length := by
  induction ps with
  | nil => rfl
  | cons p ps ih =>
    have e : pnums (p :: ps) = pnum p ++ pnums ps := rfl
    rw [e, List.length_append, ih, List.length_cons]
    show 3 + 3 * ps.length = 3 * (ps.length + 1)
    omega
theorem nums_length (ep fr dp se : Int) (ps : List Pt) : (nums ep fr dp se ps).length = 6 + 3 * ps.length := by
  simp only [nums, List.length_append, pnums_length]; simp
theorem pnums_next (ps : List Pt) (j : Nat) (h : j < ps.length) : pnums (ps.take (j + 1)) = pnums (ps.take j) ++ pnum (ps.getD j Pt.zero) := by
  rw [take_next ps j h]; simp [pnums]
/-- its bytes -/
def sbytes (ep fr dp se : Int) (ps : List Pt) : List Int := leAll (nums ep fr dp se ps) ++ le 4 (chk 0 (leAll (nums ep fr dp se ps)) : Nat)
theorem sbytes_length (ep fr dp se : Int) (ps : List Pt) : (sbytes ep fr dp se ps).length = 8 * (6 + 3 * ps.length) + 4 := by
  simp only [sbytes, List.length_append, leAll_length, nums_length, le_length]
theorem oct_leAll (l : List Int) : Oct (leAll l) := by
  induction l with
  | nil => intro x hx; simp [leAll] at hx
  | cons a l ih =>
    have e : leAll (a :: l) = leI a ++ leAll l := by simp [leAll]
    rw [e]
    exact Oct.append (oct_le _ _) ih
theorem oct_sbytes (ep fr dp se : Int) (ps : List Pt) : Oct (sbytes ep fr dp se ps) := (oct_leAll _).append (oct_le _ _)
theorem sbytes_taken (ep fr dp se : Int) (ps : List Pt) : taken (sbytes ep fr dp se ps) = (leAll (nums ep fr dp se ps), 0) := by
  unfold sbytes
  rw [taken_append _ _ (le_length _ _), if_pos rfl]

theorem val_le (k : Nat) (n : Int) (h0 : 0 ≤ n) (h1 : n < 256 ^ k) : val (le k n) = n := by
  induction k generalizing n with
  | zero => simp at h1; simp [le, val]; omega
  | succ k ih =>
    rw [Int.pow_succ] at h1
    simp only [le, val]
    rw [ih (n / 256) (by omega) (by omega)]
    omega
theorem leAll_cons (n : Int) (l : List Int) : leAll (n :: l) = leI n ++ leAll l := by simp [leAll]
/-- what Int tells of bytes that begin with a number's, what is left, the error -/
theorem uval_cons (n : Int) (l : List Int) (h : W64 n) : wrap64 (uval (leAll (n :: l))) = n := by
  have hl : (leI n).length = 8 := leI_length n
  rw [leAll_cons]
  unfold uval
  rw [if_neg (by rw [List.length_append]; omega), List.take_append_of_le_length (by omega), List.take_of_length_le (by omega)]
  unfold leI
  rw [val_le 8 _ (by omega) (by omega)]
  unfold W64 at h
  unfold wrap64
  omega
theorem urest_cons (n : Int) (l : List Int) : urest (leAll (n :: l)) = leAll l := by
  have hl : (leI n).length = 8 := leI_length n
  rw [leAll_cons]
  unfold urest
  rw [if_neg (by rw [List.length_append]; omega), show (8 : Nat) = (leI n).length from hl.symm, List.drop_left]
theorem uerr_cons (n : Int) (l : List Int) (er : Int) : uerr (leAll (n :: l)) er = er := by
  have hl : (leI n).length = 8 := leI_length n
  rw [leAll_cons]
  unfold uerr
  rw [if_neg (by rw [List.length_append]; omega)]
theorem byte_leAll (l : List Int) : Byte (leAll l) := oct_leAll l

section
variable {p : Nat → Prop}
/-- THE READER AT A NUMBER. -/
theorem intR_cons (b : Nat) (n : Int) (l : List Int) (er : Int) (w : World) (h : RdrAt w b p (leAll (n :: l)) er) (hn : W64 n) :
    Calls Try.prog 32 #[.pointer (some ⟨b, 0, none⟩)] w fun e w' => e = .returned (.int .i64 n) ∧ RdrAt w' b p (leAll l) er ∧ Upd b w w' := by
  have := intR_any b (leAll (n :: l)) er w h (byte_leAll _)
  rw [uval_cons n l hn, urest_cons, uerr_cons] at this
  exact this
end
end Go.Proofs.Ytlcphhlimcnnaaa
