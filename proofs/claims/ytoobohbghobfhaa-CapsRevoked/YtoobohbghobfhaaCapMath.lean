/-
  A table of capabilities as lists: slots, what is good, the first empty slot; the document's list of those that are good beside it. Conditions: each theorem's own.
-/
import Derived.Test.YtoobohbghobfhaaRigMath
namespace Go.Proofs.Ytoobohbghobfhaa
open Go.RowKit
set_option linter.unusedVariables false

/-- a capability -/
structure Cp where
  s : Int
  g : Int
def Cp.cs (c : Cp) : List Value := [.int .i64 c.s, .int .i64 c.g]
def Cp.zero : Cp := ⟨0, 0⟩
def Cp.is (c d : Cp) : Bool := decide (c.s = d.s) && decide (c.g = d.g)
theorem Cp.is_eq {c d : Cp} (h : c.is d = true) : c = d := by
  obtain ⟨a, b⟩ := c
  obtain ⟨x, y⟩ := d
  simp only [Cp.is, Bool.and_eq_true, decide_eq_true_eq] at h
  rw [h.1, h.2]
theorem Cp.is_self (c : Cp) : c.is c = true := by simp [Cp.is]
theorem Cp.is_not {c d : Cp} (h : c.is d = false) : c ≠ d := fun e => by rw [e, Cp.is_self] at h; cases h
theorem Cp.not_is {c d : Cp} (h : c ≠ d) : c.is d = false := by
  cases e : c.is d
  · rfl
  · exact absurd (Cp.is_eq e) h
/-- a slot -/
structure Sl where
  s : Int
  g : Int
  r : Nat
def Sl.cp (x : Sl) : Cp := ⟨x.s, x.g⟩
def Sl.cs (x : Sl) : List Value := [.int .i64 x.s, .int .i64 x.g, .int .i64 x.r]
def Sl.zero : Sl := ⟨0, 0, 0⟩
def Sl.emp (x : Sl) : Bool := decide (x.s = 0) && decide (x.g = 0)
theorem cpk : ∀ x : Cp, x.cs.length = 2 := fun _ => rfl
theorem slk : ∀ x : Sl, x.cs.length = 3 := fun _ => rfl
theorem emp_zero : Sl.zero.emp = true := rfl

/-- a slot, number i, of a table of the epoch k that has given out n -/
def SlOk (k n : Int) (i : Nat) (x : Sl) : Prop := x = Sl.zero ∨ (x.s = i ∧ k * 1048576 ≤ x.g ∧ x.g < k * 1048576 + n ∧ x.r < 16)
def OkF (k n : Int) : Nat → List Sl → Prop
  | _, [] => True
  | o, x :: l => SlOk k n o x ∧ OkF k n (o + 1) l
theorem SlOk.mono {k n n' : Int} {i : Nat} {x : Sl} (h : SlOk k n i x) (hn : n ≤ n') : SlOk k n' i x := by
  rcases h with h | ⟨h1, h2, h3, h4⟩
  · exact .inl h
  · exact .inr ⟨h1, h2, by omega, h4⟩
theorem OkF.mono {k n n' : Int} (hn : n ≤ n') : ∀ {S : List Sl} {o : Nat}, OkF k n o S → OkF k n' o S
  | [], _, _ => trivial
  | _ :: _, _, h => ⟨h.1.mono hn, OkF.mono hn h.2⟩
theorem OkF.at {k n : Int} : ∀ {S : List Sl} {o i : Nat}, OkF k n o S → i < S.length → SlOk k n (o + i) (S.getD i Sl.zero)
  | [], _, _, _, h => absurd h (Nat.not_lt_zero _)
  | x :: S, o, 0, h, _ => h.1
  | x :: S, o, i + 1, h, hi => by
    have := OkF.at (i := i) h.2 (by simpa using hi)
    rw [show o + 1 + i = o + (i + 1) by omega] at this
    simpa using this
theorem OkF.set {k n : Int} : ∀ {S : List Sl} {o i : Nat} {x : Sl}, OkF k n o S → SlOk k n (o + i) x → OkF k n o (S.set i x)
  | [], _, _, _, h, _ => h
  | y :: S, o, 0, x, h, hx => ⟨hx, h.2⟩
  | y :: S, o, i + 1, x, h, hx => ⟨h.1, OkF.set (i := i) h.2 (by rwa [show o + 1 + i = o + (i + 1) by omega])⟩
theorem SlOk.emp {k n : Int} {i : Nat} {x : Sl} (hk : 1 ≤ k) (h : SlOk k n i x) (he : x.emp = true) : x = Sl.zero := by
  rcases h with h | ⟨h1, h2, h3, h4⟩
  · exact h
  · simp only [Sl.emp, Bool.and_eq_true, decide_eq_true_eq] at he
    omega
theorem SlOk.full {k n : Int} {i : Nat} {x : Sl} (h : SlOk k n i x) (he : x.emp = false) : x.s = i ∧ k * 1048576 ≤ x.g ∧ x.g < k * 1048576 + n ∧ x.r < 16 := by
  rcases h with h | h
  · rw [h, emp_zero] at he; cases he
  · exact h
theorem SlOk.rlt {k n : Int} {i : Nat} {x : Sl} (h : SlOk k n i x) : x.r < 16 := by
  rcases h with h | h
  · rw [h]; decide
  · exact h.2.2.2

/-- a table of the epoch k that has given out n -/
structure TbOk (S : List Sl) (k n : Int) : Prop where
  len : S.length = 8
  k1 : 1 ≤ k
  k2 : k ≤ 1073741824
  n1 : 1 ≤ n
  n2 : n ≤ 1048576
  ok : OkF k n 0 S
theorem TbOk.at {S : List Sl} {k n : Int} (h : TbOk S k n) {i : Nat} (hi : i < 8) : SlOk k n i (S.getD i Sl.zero) := by
  have := h.ok.at (i := i) (by rw [h.len]; exact hi)
  rwa [Nat.zero_add] at this
theorem TbOk.set {S : List Sl} {k n : Int} (h : TbOk S k n) {i : Nat} {x : Sl} (hx : SlOk k n i x) : TbOk (S.set i x) k n :=
  ⟨by rw [List.length_set]; exact h.len, h.k1, h.k2, h.n1, h.n2, h.ok.set (by rwa [Nat.zero_add])⟩
theorem TbOk.put {S : List Sl} {k n : Int} (h : TbOk S k n) {i : Nat} {r : Nat} (hn : n < 1048576) (hr : r < 16) : TbOk (S.set i ⟨i, k * 1048576 + n, r⟩) k (n + 1) := by
  have := h.n1
  have := h.k1
  exact ⟨by rw [List.length_set]; exact h.len, h.k1, h.k2, by omega, by omega, (h.ok.mono (by omega)).set (.inr ⟨by simp, by show k * 1048576 ≤ k * 1048576 + n; omega, by show k * 1048576 + n < k * 1048576 + (n + 1); omega, hr⟩)⟩

/-- the slot that a capability names; is it in the table, and does it hold the capability? -/
def atS (S : List Sl) (c : Cp) : Sl := S.getD c.s.toNat Sl.zero
def inS (c : Cp) : Bool := decide (0 ≤ c.s) && decide (c.s < 8)
def hitS (x : Sl) (c : Cp) : Bool := !x.emp && x.cp.is c
def goodB (S : List Sl) (c : Cp) : Bool := inS c && hitS (atS S c) c
theorem inS_yes {c : Cp} (h0 : 0 ≤ c.s) (h8 : c.s < 8) : inS c = true := by simp [inS, h0, h8]
theorem goodB_out {S : List Sl} {c : Cp} (h : ¬ (0 ≤ c.s ∧ c.s < 8)) : goodB S c = false := by
  have : inS c = false := by
    cases e : inS c
    · rfl
    · simp only [inS, Bool.and_eq_true, decide_eq_true_eq] at e
      exact absurd e h
  rw [goodB, this]; rfl
theorem goodB_in {S : List Sl} {c : Cp} (h0 : 0 ≤ c.s) (h8 : c.s < 8) : goodB S c = hitS (atS S c) c := by rw [goodB, inS_yes h0 h8]; rfl
theorem goodB_yes {S : List Sl} {c : Cp} (h : goodB S c = true) : 0 ≤ c.s ∧ c.s < 8 ∧ (atS S c).emp = false ∧ (atS S c).cp = c := by
  simp only [goodB, inS, hitS, Bool.and_eq_true, decide_eq_true_eq, Bool.not_eq_true'] at h
  exact ⟨h.1.1, h.1.2, h.2.1, Cp.is_eq h.2.2⟩
theorem goodB_is {S : List Sl} {c : Cp} (h0 : 0 ≤ c.s) (h8 : c.s < 8) (he : (atS S c).emp = false) (hc : (atS S c).cp = c) : goodB S c = true := by
  rw [goodB_in h0 h8, hitS, he, hc, Cp.is_self]; rfl
theorem TbOk.atS {S : List Sl} {k n : Int} (h : TbOk S k n) {c : Cp} (h0 : 0 ≤ c.s) (h8 : c.s < 8) : SlOk k n c.s.toNat (atS S c) := h.at (by omega)
theorem TbOk.rlt {S : List Sl} {k n : Int} (h : TbOk S k n) (c : Cp) : (Go.Proofs.Ytoobohbghobfhaa.atS S c).r < 16 := by
  by_cases hc : c.s.toNat < 8
  · exact (h.at hc).rlt
  · have : Go.Proofs.Ytoobohbghobfhaa.atS S c = Sl.zero := by
      unfold Go.Proofs.Ytoobohbghobfhaa.atS
      rw [List.getD_eq_getElem?_getD, List.getElem?_eq_none (by rw [h.len]; omega)]; rfl
    rw [this]; decide

/-- what Check tells -/
def chkS (S : List Sl) (c : Cp) (need : Nat) : Int := if goodB S c then (if hasB (atS S c).r need then 0 else 11) else 10
theorem chkS_cases (S : List Sl) (c : Cp) (need : Nat) : (chkS S c need = 0 ∧ goodB S c = true ∧ hasB (atS S c).r need = true) ∨ chkS S c need = 11 ∨ (chkS S c need = 10 ∧ goodB S c = false) := by
  unfold chkS
  cases goodB S c <;> cases hasB (atS S c).r need <;> simp
theorem chkS_bad {S : List Sl} {c : Cp} (need : Nat) (h : goodB S c = false) : chkS S c need = 10 := by unfold chkS; rw [h]; rfl
theorem chkS_good {S : List Sl} {c : Cp} {need : Nat} (h : goodB S c = true) (hh : hasB (atS S c).r need = true) : chkS S c need = 0 := by unfold chkS; rw [h, hh]; rfl
theorem has_0 : ∀ x, x < 16 → hasB x 0 = true := by decide

/-- the first empty slot -/
def roomN (S : List Sl) : Nat := S.findIdx Sl.emp
/-- what Mint tells -/
def errM (S : List Sl) (n : Int) (c : Cp) (s : Int) : Int :=
  if chkS S c 8 ≠ 0 then chkS S c 8 else if ¬ (0 ≤ s ∧ s ≤ 15) then 1 else if chkS S c s.toNat ≠ 0 then chkS S c s.toNat else if n = 1048576 ∨ ¬ roomN S < 8 then 13 else 0
def setM (S : List Sl) (k n : Int) (c : Cp) (s : Int) : List Sl := if errM S n c s = 0 then S.set (roomN S) ⟨roomN S, k * 1048576 + n, s.toNat⟩ else S
def numM (S : List Sl) (n : Int) (c : Cp) (s : Int) : Int := if errM S n c s = 0 then n + 1 else n
def capM (S : List Sl) (k n : Int) (c : Cp) (s : Int) : Cp := if errM S n c s = 0 then ⟨roomN S, k * 1048576 + n⟩ else Cp.zero
/-- what Revoke tells -/
def errR (S : List Sl) (c what : Cp) : Int := if chkS S c 8 ≠ 0 then chkS S c 8 else if goodB S what then 0 else 10
def setR (S : List Sl) (c what : Cp) : List Sl := if errR S c what = 0 then S.set what.s.toNat Sl.zero else S

theorem errM_zero {S : List Sl} {n : Int} {c : Cp} {s : Int} (h : errM S n c s = 0) : chkS S c 8 = 0 ∧ 0 ≤ s ∧ s ≤ 15 ∧ chkS S c s.toNat = 0 ∧ n ≠ 1048576 ∧ roomN S < 8 := by
  unfold errM at h
  by_cases h1 : chkS S c 8 = 0
  · rw [if_neg (fun x => x h1)] at h
    by_cases h2 : 0 ≤ s ∧ s ≤ 15
    · rw [if_neg (fun x => x h2)] at h
      by_cases h3 : chkS S c s.toNat = 0
      · rw [if_neg (fun x => x h3)] at h
        by_cases h4 : n = 1048576 ∨ ¬ roomN S < 8
        · rw [if_pos h4] at h; omega
        · exact ⟨h1, h2.1, h2.2, h3, by omega, by omega⟩
      · rw [if_pos h3] at h; exact absurd h h3
    · rw [if_pos h2] at h; omega
  · rw [if_pos h1] at h; exact absurd h h1
theorem errM_1 {S : List Sl} {n : Int} {c : Cp} {s : Int} (h1 : chkS S c 8 ≠ 0) : errM S n c s = chkS S c 8 := by unfold errM; rw [if_pos h1]
theorem errM_2 {S : List Sl} {n : Int} {c : Cp} {s : Int} (h1 : chkS S c 8 = 0) (h2 : ¬ (0 ≤ s ∧ s ≤ 15)) : errM S n c s = 1 := by unfold errM; rw [if_neg (fun x => x h1), if_pos h2]
theorem errM_3 {S : List Sl} {n : Int} {c : Cp} {s : Int} (h1 : chkS S c 8 = 0) (h2 : 0 ≤ s ∧ s ≤ 15) (h3 : chkS S c s.toNat ≠ 0) : errM S n c s = chkS S c s.toNat := by unfold errM; rw [if_neg (fun x => x h1), if_neg (fun x => x h2), if_pos h3]
theorem errM_4 {S : List Sl} {n : Int} {c : Cp} {s : Int} (h1 : chkS S c 8 = 0) (h2 : 0 ≤ s ∧ s ≤ 15) (h3 : chkS S c s.toNat = 0) (h4 : n = 1048576 ∨ ¬ roomN S < 8) : errM S n c s = 13 := by unfold errM; rw [if_neg (fun x => x h1), if_neg (fun x => x h2), if_neg (fun x => x h3), if_pos h4]
theorem errM_5 {S : List Sl} {n : Int} {c : Cp} {s : Int} (h1 : chkS S c 8 = 0) (h2 : 0 ≤ s ∧ s ≤ 15) (h3 : chkS S c s.toNat = 0) (h4 : ¬ (n = 1048576 ∨ ¬ roomN S < 8)) : errM S n c s = 0 := by unfold errM; rw [if_neg (fun x => x h1), if_neg (fun x => x h2), if_neg (fun x => x h3), if_neg h4]
theorem TbOk.mint {S : List Sl} {k n : Int} (h : TbOk S k n) (c : Cp) (s : Int) : TbOk (setM S k n c s) k (numM S n c s) := by
  unfold setM numM
  by_cases e : errM S n c s = 0
  · rw [if_pos e, if_pos e]
    obtain ⟨-, h1, h2, -, h3, -⟩ := errM_zero e
    have := h.n2
    exact h.put (by omega) (by omega)
  · rw [if_neg e, if_neg e]; exact h
theorem TbOk.revoke {S : List Sl} {k n : Int} (h : TbOk S k n) (c what : Cp) : TbOk (setR S c what) k n := by
  unfold setR
  by_cases e : errR S c what = 0
  · rw [if_pos e]; exact h.set (.inl rfl)
  · rw [if_neg e]; exact h

/-- those that are given out, by their slots -/
def allS (S : List Sl) : List Sl := S.filter fun x => !x.emp
theorem allS_nil : allS [] = [] := rfl
theorem allS_no {x : Sl} {S : List Sl} (h : x.emp = true) : allS (x :: S) = allS S := by simp [allS, h]
theorem allS_yes {x : Sl} {S : List Sl} (h : x.emp = false) : allS (x :: S) = x :: allS S := by simp [allS, h]
theorem allS_len (S : List Sl) : (allS S).length ≤ S.length := List.length_filter_le _ _
theorem roomN_no {x : Sl} {S : List Sl} (h : x.emp = true) : roomN (x :: S) = 0 := by simp [roomN, List.findIdx_cons, h]
theorem roomN_yes {x : Sl} {S : List Sl} (h : x.emp = false) : roomN (x :: S) = roomN S + 1 := by simp [roomN, List.findIdx_cons, h]
theorem room_emp : ∀ {S : List Sl}, roomN S < S.length → (S.getD (roomN S) Sl.zero).emp = true
  | [], h => absurd h (Nat.not_lt_zero _)
  | x :: S, h => by
    cases e : x.emp
    · rw [roomN_yes e] at h ⊢
      have := room_emp (S := S) (by simpa using h)
      simpa using this
    · rw [roomN_no e]; simpa using e
/-- there is an empty slot where fewer than all are given out -/
theorem room_lt : ∀ {S : List Sl}, (allS S).length < S.length → roomN S < S.length
  | [], h => absurd h (Nat.not_lt_zero _)
  | x :: S, h => by
    cases e : x.emp
    · rw [allS_yes e] at h
      rw [roomN_yes e]
      have := room_lt (S := S) (by simpa using h)
      simpa using this
    · rw [roomN_no e]; simp
theorem room_full : ∀ {S : List Sl}, (allS S).length = S.length → roomN S = S.length
  | [], h => rfl
  | x :: S, h => by
    cases e : x.emp
    · rw [allS_yes e] at h
      rw [roomN_yes e, room_full (S := S) (by simpa using h)]; rfl
    · rw [allS_no e] at h
      have := allS_len S
      simp at h
      omega
/-- what is put into the first empty slot -/
theorem allS_put : ∀ {S : List Sl} {y : Sl}, roomN S < S.length → y.emp = false → allS (S.set (roomN S) y) = (allS S).take (roomN S) ++ y :: (allS S).drop (roomN S)
  | [], _, h, _ => absurd h (Nat.not_lt_zero _)
  | x :: S, y, h, hy => by
    cases e : x.emp
    · rw [roomN_yes e] at h ⊢
      have := allS_put (S := S) (y := y) (by simpa using h) hy
      rw [List.set_cons_succ, allS_yes e, allS_yes e, this]; rfl
    · rw [roomN_no e, List.set_cons_zero, allS_yes hy, allS_no e]; rfl
theorem allS_put_len {S : List Sl} {y : Sl} (h : roomN S < S.length) (hy : y.emp = false) : (allS (S.set (roomN S) y)).length = (allS S).length + 1 := by
  rw [allS_put h hy, List.length_append, List.length_cons, List.length_take, List.length_drop]
  omega

/-- where a good one stands in a list -/
def fidx (c : Cp) : List Sl → Nat
  | [] => 0
  | x :: l => if x.cp.is c then 0 else fidx c l + 1
theorem fidx_yes {c : Cp} {x : Sl} {l : List Sl} (h : x.cp.is c = true) : fidx c (x :: l) = 0 := if_pos h
theorem fidx_no {c : Cp} {x : Sl} {l : List Sl} (h : x.cp.is c = false) : fidx c (x :: l) = fidx c l + 1 := if_neg (by rw [h]; exact Bool.false_ne_true)
theorem fidx_le (c : Cp) : ∀ l : List Sl, fidx c l ≤ l.length
  | [] => Nat.le_refl _
  | x :: l => by
    cases e : x.cp.is c
    · rw [fidx_no e]; have := fidx_le c l; simpa using this
    · rw [fidx_yes e]; exact Nat.zero_le _
theorem fidx_lt {c : Cp} : ∀ {l : List Sl} {x : Sl}, x ∈ l → x.cp = c → fidx c l < l.length
  | [], _, h, _ => by cases h
  | y :: l, x, h, hx => by
    cases e : y.cp.is c
    · rw [fidx_no e]
      rcases List.mem_cons.1 h with rfl | h
      · rw [hx, Cp.is_self] at e; cases e
      · have := fidx_lt h hx; simpa using this
    · rw [fidx_yes e]; simp
theorem fidx_at {c : Cp} : ∀ {l : List Sl}, fidx c l < l.length → (l.getD (fidx c l) Sl.zero).cp.is c = true
  | [], h => absurd h (Nat.not_lt_zero _)
  | y :: l, h => by
    cases e : y.cp.is c
    · rw [fidx_no e] at h ⊢
      have := fidx_at (l := l) (by simpa using h)
      simpa using this
    · rw [fidx_yes e]; simpa using e
theorem fidx_before {c : Cp} : ∀ {l : List Sl} {j : Nat}, j < fidx c l → (l.getD j Sl.zero).cp.is c = false
  | [], _, h => absurd h (Nat.not_lt_zero _)
  | y :: l, j, h => by
    cases e : y.cp.is c
    · rw [fidx_no e] at h
      cases j with
      | zero => simpa using e
      | succ j =>
        have := fidx_before (c := c) (l := l) (j := j) (by omega)
        simpa using this
    · rw [fidx_yes e] at h; omega
theorem fidx_is {c : Cp} : ∀ {l : List Sl} {j : Nat}, j < l.length → (l.getD j Sl.zero).cp.is c = true → (∀ i, i < j → (l.getD i Sl.zero).cp.is c = false) → fidx c l = j
  | [], _, h, _, _ => absurd h (Nat.not_lt_zero _)
  | y :: l, 0, _, h, _ => fidx_yes (by simpa using h)
  | y :: l, j + 1, hj, h, hb => by
    rw [fidx_no (by have := hb 0 (by omega); simpa using this), fidx_is (l := l) (j := j) (by simpa using hj) (by simpa using h) (fun i hi => by have := hb (i + 1) (by omega); simpa using this)]
theorem fidx_none {c : Cp} : ∀ {l : List Sl}, (∀ i, i < l.length → (l.getD i Sl.zero).cp.is c = false) → fidx c l = l.length
  | [], _ => rfl
  | y :: l, hb => by
    rw [fidx_no (by have := hb 0 (by simp); simpa using this), fidx_none (l := l) (fun i hi => by have := hb (i + 1) (by simpa using hi); simpa using this)]; rfl
def findL (L : List Sl) (c : Cp) : Int := if fidx c L < L.length then (fidx c L : Int) else -1
/-- the document's Check -/
def chkL (L : List Sl) (c : Cp) (need : Nat) : Int := if fidx c L < L.length then (if hasB (L.getD (fidx c L) Sl.zero).r need then 0 else 11) else 10

theorem mem_at {S : List Sl} {x : Sl} (h : x ∈ S) : ∃ i, i < S.length ∧ S.getD i Sl.zero = x := by
  obtain ⟨i, hi, e⟩ := List.mem_iff_getElem.1 h
  exact ⟨i, hi, by simp [List.getD, List.getElem?_eq_getElem hi, e]⟩
theorem at_mem {S : List Sl} {i : Nat} (h : i < S.length) : S.getD i Sl.zero ∈ S := by
  have : S.getD i Sl.zero = S[i] := by simp [List.getD, List.getElem?_eq_getElem h]
  rw [this]; exact List.getElem_mem h
theorem mem_allS {S : List Sl} {x : Sl} : x ∈ allS S ↔ x ∈ S ∧ x.emp = false := by simp [allS]
theorem TbOk.cap {S : List Sl} {k n : Int} (h : TbOk S k n) {c : Cp} {x : Sl} (hx : x ∈ allS S) (hc : x.cp = c) : goodB S c = true ∧ Go.Proofs.Ytoobohbghobfhaa.atS S c = x := by
  obtain ⟨hm, he⟩ := mem_allS.1 hx
  obtain ⟨i, hi, e⟩ := mem_at hm
  rw [h.len] at hi
  have hs := (h.at hi)
  rw [e] at hs
  obtain ⟨h1, -⟩ := hs.full he
  have hcs : c.s = i := by rw [← hc]; exact h1
  have ha : Go.Proofs.Ytoobohbghobfhaa.atS S c = x := by
    unfold Go.Proofs.Ytoobohbghobfhaa.atS
    rw [hcs, Int.toNat_natCast, e]
  exact ⟨goodB_is (by omega) (by omega) (by rw [ha]; exact he) (by rw [ha]; exact hc), ha⟩
theorem TbOk.find {S : List Sl} {k n : Int} (h : TbOk S k n) (c : Cp) : (goodB S c = true ∧ fidx c (allS S) < (allS S).length ∧ (allS S).getD (fidx c (allS S)) Sl.zero = Go.Proofs.Ytoobohbghobfhaa.atS S c) ∨ (goodB S c = false ∧ ¬ fidx c (allS S) < (allS S).length) := by
  cases hg : goodB S c
  · refine .inr ⟨rfl, fun hl => ?_⟩
    have := (h.cap (at_mem hl) (Cp.is_eq (fidx_at hl))).1
    rw [hg] at this; cases this
  · obtain ⟨h0, h8, he, hc⟩ := goodB_yes hg
    have hm : Go.Proofs.Ytoobohbghobfhaa.atS S c ∈ allS S := mem_allS.2 ⟨at_mem (by rw [h.len]; omega), he⟩
    have hl := fidx_lt hm hc
    exact .inl ⟨rfl, hl, ((h.cap (at_mem hl) (Cp.is_eq (fidx_at hl))).2).symm⟩
theorem TbOk.check {S : List Sl} {k n : Int} (h : TbOk S k n) (c : Cp) (need : Nat) : chkL (allS S) c need = chkS S c need := by
  unfold chkL chkS
  rcases h.find c with ⟨h1, h2, h3⟩ | ⟨h1, h2⟩
  · rw [h1, h3, if_pos h2]; rfl
  · rw [h1, if_neg h2]; rfl
theorem allS_rlt {S : List Sl} {k n : Int} (h : TbOk S k n) : ∀ x ∈ allS S, x.r < 16 := fun x hx => by
  obtain ⟨i, hi, e⟩ := mem_at (mem_allS.1 hx).1
  rw [h.len] at hi
  have := (h.at hi).rlt
  rwa [e] at this

/-- the document's first empty slot -/
def freeF : Nat → List Sl → Nat
  | n, [] => n
  | n, x :: l => freeF (if x.s = (n : Int) then n + 1 else n) l
def freeL (L : List Sl) : Nat := freeF 0 L
theorem freeF_snoc : ∀ (l : List Sl) (n : Nat) (x : Sl), freeF n (l ++ [x]) = if x.s = (freeF n l : Int) then freeF n l + 1 else freeF n l
  | [], n, x => rfl
  | y :: l, n, x => freeF_snoc l _ x
theorem freeF_stay {n : Nat} : ∀ {l : List Sl}, (∀ x ∈ l, (n : Int) < x.s) → freeF n l = n
  | [], _ => rfl
  | y :: l, h => by
    have h1 := h y (by simp)
    have e : freeF n (y :: l) = freeF n l := by
      show freeF (if y.s = (n : Int) then n + 1 else n) l = _
      rw [if_neg (by omega)]
    rw [e]
    exact freeF_stay (fun x hx => h x (by simp [hx]))
theorem freeF_le : ∀ (l : List Sl) (n : Nat), freeF n l ≤ n + l.length
  | [], n => Nat.le_refl _
  | y :: l, n => by
    have := freeF_le l (if y.s = (n : Int) then n + 1 else n)
    show freeF (if y.s = (n : Int) then n + 1 else n) l ≤ n + (l.length + 1)
    split at this <;> rename_i h
    · rw [if_pos h]; omega
    · rw [if_neg h]; omega
theorem OkF.slots {k n : Int} : ∀ {S : List Sl} {o : Nat}, OkF k n o S → ∀ x ∈ allS S, (o : Int) ≤ x.s
  | [], _, _, x, hx => by cases hx
  | y :: S, o, h, x, hx => by
    cases e : y.emp
    · rw [allS_yes e] at hx
      rcases List.mem_cons.1 hx with rfl | hx
      · have := (h.1.full e).1; omega
      · have := OkF.slots h.2 x hx; omega
    · rw [allS_no e] at hx
      have := OkF.slots h.2 x hx; omega
theorem OkF.free {k n : Int} : ∀ {S : List Sl} {o : Nat}, OkF k n o S → freeF o (allS S) = o + roomN S
  | [], o, _ => rfl
  | y :: S, o, h => by
    cases e : y.emp
    · rw [allS_yes e, roomN_yes e]
      show freeF (if y.s = (o : Int) then o + 1 else o) (allS S) = _
      rw [if_pos (h.1.full e).1, OkF.free h.2]
      omega
    · rw [allS_no e, roomN_no e]
      exact freeF_stay (fun x hx => by have := OkF.slots h.2 x hx; omega)
theorem TbOk.free {S : List Sl} {k n : Int} (h : TbOk S k n) : freeL (allS S) = roomN S := by
  have := h.ok.free
  rwa [Nat.zero_add] at this

/-- what is taken out -/
theorem allS_cut {c : Cp} : ∀ {S : List Sl} {i : Nat}, i < S.length → (S.getD i Sl.zero).emp = false → (S.getD i Sl.zero).cp = c → (∀ j, j < i → (S.getD j Sl.zero).emp = false → (S.getD j Sl.zero).cp.is c = false) →
    allS (S.set i Sl.zero) = (allS S).take (fidx c (allS S)) ++ (allS S).drop (fidx c (allS S) + 1)
  | [], _, h, _, _, _ => absurd h (Nat.not_lt_zero _)
  | x :: S, 0, _, he, hc, _ => by
    have he' : x.emp = false := by simpa using he
    have hc' : x.cp = c := by simpa using hc
    rw [List.set_cons_zero, allS_no emp_zero, allS_yes he', fidx_yes (by rw [hc']; exact Cp.is_self c)]
    rfl
  | x :: S, i + 1, hi, he, hc, hb => by
    have ih := allS_cut (c := c) (S := S) (i := i) (by simpa using hi) (by simpa using he) (by simpa using hc) (fun j hj h => by have := hb (j + 1) (by omega) (by simpa using h); simpa using this)
    cases e : x.emp
    · have hx : x.cp.is c = false := by have := hb 0 (by omega) (by simpa using e); simpa using this
      rw [List.set_cons_succ, allS_yes e, allS_yes e, fidx_no hx, ih]; rfl
    · rw [List.set_cons_succ, allS_no e, allS_no e, ih]
theorem TbOk.cut {S : List Sl} {k n : Int} (h : TbOk S k n) {c : Cp} (hg : goodB S c = true) : allS (S.set c.s.toNat Sl.zero) = (allS S).take (fidx c (allS S)) ++ (allS S).drop (fidx c (allS S) + 1) := by
  obtain ⟨h0, h8, he, hc⟩ := goodB_yes hg
  refine allS_cut (by rw [h.len]; omega) he hc (fun j hj hf => Cp.not_is fun e => ?_)
  have h1 := ((h.at (show j < 8 by omega)).full hf).1
  have h2 : (S.getD j Sl.zero).s = c.s := congrArg Cp.s e
  omega
theorem TbOk.cut_len {S : List Sl} {k n : Int} (h : TbOk S k n) {c : Cp} (hg : goodB S c = true) : (allS (S.set c.s.toNat Sl.zero)).length + 1 = (allS S).length := by
  rcases h.find c with ⟨_, h2, _⟩ | ⟨h1, _⟩
  · rw [h.cut hg, List.length_append, List.length_take, List.length_drop]
    omega
  · rw [hg] at h1; cases h1

/-- the document's Mint, and Revoke -/
def errML (L : List Sl) (n : Int) (c : Cp) (s : Int) : Int :=
  if chkL L c 8 ≠ 0 then chkL L c 8 else if ¬ (0 ≤ s ∧ s ≤ 15) then 1 else if chkL L c s.toNat ≠ 0 then chkL L c s.toNat else if 7 < (freeL L : Int) ∨ 1048576 ≤ n then 13 else 0
def setML (L : List Sl) (k n : Int) (c : Cp) (s : Int) : List Sl := if errML L n c s = 0 then L.take (freeL L) ++ ⟨freeL L, k * 1048576 + n, s.toNat⟩ :: L.drop (freeL L) else L
def numML (L : List Sl) (n : Int) (c : Cp) (s : Int) : Int := if errML L n c s = 0 then n + 1 else n
def capML (L : List Sl) (k n : Int) (c : Cp) (s : Int) : Cp := if errML L n c s = 0 then ⟨freeL L, k * 1048576 + n⟩ else Cp.zero
def errRL (L : List Sl) (c what : Cp) : Int := if chkL L c 8 ≠ 0 then chkL L c 8 else if fidx what L < L.length then 0 else 10
def setRL (L : List Sl) (c what : Cp) : List Sl := if errRL L c what = 0 then L.take (fidx what L) ++ L.drop (fidx what L + 1) else L
theorem TbOk.errM {S : List Sl} {k n : Int} (h : TbOk S k n) (c : Cp) (s : Int) : errML (allS S) n c s = Go.Proofs.Ytoobohbghobfhaa.errM S n c s := by
  unfold errML Go.Proofs.Ytoobohbghobfhaa.errM
  rw [h.check, h.check, h.free]
  have := h.n2
  have e : (7 < (roomN S : Int) ∨ 1048576 ≤ n) ↔ (n = 1048576 ∨ ¬ roomN S < 8) := by omega
  simp only [e]
theorem TbOk.setM {S : List Sl} {k n : Int} (h : TbOk S k n) (c : Cp) (s : Int) : setML (allS S) k n c s = allS (Go.Proofs.Ytoobohbghobfhaa.setM S k n c s) := by
  unfold setML Go.Proofs.Ytoobohbghobfhaa.setM
  rw [h.errM, h.free]
  by_cases e : Go.Proofs.Ytoobohbghobfhaa.errM S n c s = 0
  · rw [if_pos e, if_pos e]
    obtain ⟨-, h1, h2, -, h3, h4⟩ := errM_zero e
    have := h.k1
    have := h.n1
    exact (allS_put (by rw [h.len]; exact h4) (by
      have hg : ¬ (k * 1048576 + n = 0) := by omega
      simp [Sl.emp, hg])).symm
  · rw [if_neg e, if_neg e]
theorem TbOk.numM {S : List Sl} {k n : Int} (h : TbOk S k n) (c : Cp) (s : Int) : numML (allS S) n c s = Go.Proofs.Ytoobohbghobfhaa.numM S n c s := by
  unfold numML Go.Proofs.Ytoobohbghobfhaa.numM; rw [h.errM]
theorem TbOk.capM {S : List Sl} {k n : Int} (h : TbOk S k n) (c : Cp) (s : Int) : capML (allS S) k n c s = Go.Proofs.Ytoobohbghobfhaa.capM S k n c s := by
  unfold capML Go.Proofs.Ytoobohbghobfhaa.capM; rw [h.errM, h.free]
theorem TbOk.errR {S : List Sl} {k n : Int} (h : TbOk S k n) (c what : Cp) : errRL (allS S) c what = Go.Proofs.Ytoobohbghobfhaa.errR S c what := by
  unfold errRL Go.Proofs.Ytoobohbghobfhaa.errR
  rw [h.check]
  rcases h.find what with ⟨h1, h2, _⟩ | ⟨h1, h2⟩
  · rw [h1, if_pos h2]; rfl
  · rw [h1, if_neg h2]; rfl
theorem TbOk.setR {S : List Sl} {k n : Int} (h : TbOk S k n) (c what : Cp) : setRL (allS S) c what = allS (Go.Proofs.Ytoobohbghobfhaa.setR S c what) := by
  unfold setRL Go.Proofs.Ytoobohbghobfhaa.setR
  rw [h.errR]
  by_cases e : Go.Proofs.Ytoobohbghobfhaa.errR S c what = 0
  · rw [if_pos e, if_pos e]
    refine (h.cut ?_).symm
    unfold Go.Proofs.Ytoobohbghobfhaa.errR at e
    by_cases h1 : chkS S c 8 = 0
    · rw [if_neg (fun x => x h1)] at e
      cases hg : goodB S what
      · rw [hg] at e; cases e
      · rfl
    · rw [if_pos h1] at e; exact absurd e h1
  · rw [if_neg e, if_neg e]
end Go.Proofs.Ytoobohbghobfhaa
