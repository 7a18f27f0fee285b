/-
  Steps of the device, the document's rows of them, and numbers' texts digit by digit. Conditions: each theorem's own.
-/
import Derived.Test.YtpmmlocigaehnaaDoorLibS
import Derived.Lib.ItoaLen
namespace Go.Proofs.YtpmmlocigaehnaaDoor
open Go.RowKit
set_option linter.unusedVariables false

theorem hid {p : Prop} (h : p) : Hid p := h
/-- a step: its kind, its page, its sector -/
structure Sp where
  o : Int
  p : Int
  k : Int
def Sp.cs (x : Sp) : List Value := [.int .i64 x.o, .int .i64 x.p, .int .i64 x.k]
def Sp.zero : Sp := ⟨0, 0, 0⟩
theorem spk : ∀ x, (Sp.cs x).length = 3 := fun _ => rfl
theorem sp_one : ∀ x : Sp, ∀ u ∈ x.cs, u.oneCell' = true := fun c u hu => by
  simp only [Sp.cs, List.mem_cons, List.not_mem_nil, or_false] at hu
  rcases hu with rfl | rfl | rfl <;> rfl

/-- both steps of a page -/
def pgL (kd p : Int) : List Sp := [⟨kd, p, 0⟩, ⟨kd, p, 1⟩]
/-- .. of pages -/
def pgsL (kd : Int) (l : List Int) : List Sp := l.flatMap (pgL kd)
def feL (p : Int) (d : Bool) (old : Int) : List Sp := (if d then pgL 2 old else []) ++ pgL 1 p
def flL (l : List Int) : List Sp := pgsL 2 l ++ [⟨3, 0, 0⟩]
def mostI (q : Int) : Int := if 4 ≤ 2 * q + 1 then 2 * q + 1 else 4

theorem pgsL_len (kd : Int) : ∀ l : List Int, (pgsL kd l).length = 2 * l.length
  | [] => rfl
  | x :: l => by
    show (pgL kd x ++ pgsL kd l).length = _
    rw [List.length_append, pgsL_len kd l, List.length_cons]
    show 2 + _ = _
    omega
theorem pgsL_one (kd x : Int) : pgsL kd [x] = pgL kd x := by simp [pgsL]
theorem pgsL_app (kd : Int) (a b : List Int) : pgsL kd (a ++ b) = pgsL kd a ++ pgsL kd b := List.flatMap_append
theorem pgsL_snoc (kd : Int) (l : List Int) (j : Nat) (h : j < l.length) (x : Int) (hx : l.getD j 0 = x) : pgsL kd (l.take (j + 1)) = pgsL kd (l.take j) ++ pgL kd x := by
  have e : l.getD j 0 = l[j] := by simp [List.getD, List.getElem?_eq_getElem h]
  rw [List.take_succ_eq_append_getElem h, pgsL_app, ← e, hx, pgsL_one]
theorem pgsL_at (kd : Int) : ∀ (l : List Int) (i : Nat), i < 2 * l.length → (pgsL kd l)[i]? = some ⟨kd, l.getD (i / 2) 0, ((i % 2 : Nat) : Int)⟩
  | [], i, h => absurd h (by simp)
  | x :: l, 0, _ => rfl
  | x :: l, 1, _ => rfl
  | x :: l, i + 2, h => by
    show (pgL kd x ++ pgsL kd l)[i + 2]? = _
    rw [List.getElem?_append_right (by show 2 ≤ _; omega)]
    show (pgsL kd l)[i + 2 - 2]? = _
    rw [Nat.add_sub_cancel, pgsL_at kd l i (by rw [List.length_cons] at h; omega)]
    have e1 : (i + 2) / 2 = i / 2 + 1 := by omega
    have e2 : (i + 2) % 2 = i % 2 := by omega
    rw [e1, e2]
    rfl
theorem pgsL_take (kd : Int) (l : List Int) (i : Nat) (h : i < 2 * l.length) (x : Int) (hx : l.getD (i / 2) 0 = x) (r : Int) (hr : r = ((i % 2 : Nat) : Int)) : (pgsL kd l).take (i + 1) = (pgsL kd l).take i ++ [⟨kd, x, r⟩] := by
  have hlt : i < (pgsL kd l).length := by rw [pgsL_len]; exact h
  have e := pgsL_at kd l i h
  rw [List.getElem?_eq_getElem hlt] at e
  rw [List.take_succ_eq_append_getElem hlt, Option.some.inj e, hx, hr]
theorem flL_len (l : List Int) : (flL l).length = 2 * l.length + 1 := by unfold flL; rw [List.length_append, pgsL_len]; rfl
theorem feL_len (p : Int) (d : Bool) (old : Int) : (feL p d old).length = if d then 4 else 2 := by cases d <;> rfl

/-- a number's last digit, as a byte -/
def lastD (n : Int) : UInt8 := UInt8.ofNat (48 + n.natAbs % 10)
theorem itoa_small {n : Int} (h : -10 < n) (h' : n < 10) : Lib.itoa n = if n < 0 then [45, lastD n] else [lastD n] := by
  unfold Lib.itoa lastD
  by_cases h0 : n < 0
  · rw [if_pos h0, if_pos h0, Lib.decDigits_one (by omega), Nat.mod_eq_of_lt (by omega)]
  · rw [if_neg h0, if_neg h0, Lib.decDigits_one (by omega), Nat.mod_eq_of_lt (by omega)]
    rw [show n.toNat = n.natAbs by omega]
theorem itoa_big {n : Int} (h : ¬ (-10 < n ∧ n < 10)) : Lib.itoa n = Lib.itoa (n.tdiv 10) ++ [lastD n] := by
  unfold Lib.itoa lastD
  have hd : ∀ u : Nat, ¬ u < 10 → Lib.decDigits u = Lib.decDigits (u / 10) ++ [UInt8.ofNat (48 + u % 10)] := fun u hu => by rw [Lib.decDigits, dif_neg hu]
  by_cases h0 : n < 0
  · obtain ⟨u, rfl⟩ : ∃ u : Nat, n = -(u : Int) := ⟨n.natAbs, by omega⟩
    have e : (-(u : Int)).tdiv 10 = -((u / 10 : Nat) : Int) := by rw [Int.neg_tdiv, Int.tdiv_eq_ediv_of_nonneg (by omega)]; omega
    rw [e, if_pos h0, if_pos (by omega), Int.natAbs_neg, Int.natAbs_natCast, Int.natAbs_neg, Int.natAbs_natCast, hd u (by omega)]
    rfl
  · obtain ⟨u, rfl⟩ : ∃ u : Nat, n = (u : Int) := ⟨n.toNat, by omega⟩
    have e : ((u : Int)).tdiv 10 = ((u / 10 : Nat) : Int) := by rw [Int.tdiv_eq_ediv_of_nonneg (by omega)]; omega
    rw [e, if_neg h0, if_neg (by omega), Int.natAbs_natCast, Int.toNat_natCast, Int.toNat_natCast, hd u (by omega)]

/-- what stands behind a step's kind -/
def placeL (x : Sp) : List UInt8 := [32] ++ Lib.itoa x.p ++ [32] ++ Lib.itoa x.k
/-- a step's text -/
def txtL (x : Sp) : List UInt8 := if x.o = 1 then [108, 111, 97, 100] ++ placeL x else if x.o = 2 then [115, 116, 111, 114, 101] ++ placeL x else if x.o = 3 then [98, 97, 114, 114, 105, 101, 114] else []
/-- a step that may be: its numbers are int's -/
def Sp.Ok (x : Sp) : Prop := (Lit.int .i64 x.o).wf = true ∧ (Lit.int .i64 x.p).wf = true ∧ (Lit.int .i64 x.k).wf = true
end Go.Proofs.YtpmmlocigaehnaaDoor
