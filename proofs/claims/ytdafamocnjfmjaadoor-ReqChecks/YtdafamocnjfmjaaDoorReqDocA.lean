/-
  The walk of the document's Check. Conditions: the theorem's own.
-/
import Derived.Test.YtdafamocnjfmjaaDoorReqV
namespace Go.Proofs.YtdafamocnjfmjaaDoor
open Go.RowKit
set_option linter.unusedVariables false
set_option linter.unusedSimpArgs false

set_option maxRecDepth 8000 in
set_option maxHeartbeats 8000000 in
theorem rcheck_out (w : World) (o p f l : Int) (a : Option Addr) (n c : Nat) (pages : Int) (ho : o < 1 ∨ 8 < o) :
    Calls Tryd.prog 13 #[.agg #[.int .i64 o, .int .i64 p, .int .i64 f, .int .i64 l, .slice a n c], .int .i64 pages] w fun e w' => e = .returned (.int .i64 (ckE o p f l n pages)) ∧ Grow w w' := by
  have hg : ∀ x, Grow w (w.alloc x) := fun x => (Grow.refl w).alloc x
  by_cases h1 : o < 1
  · have HE : Hid (ckE o p f l n pages = 2) := ckE_no (by omega) p f l n pages
    clear ho
    go_enter Tryd.func13, Tryd.ntmps13
    go_wp2
    go_ret
    exact ⟨ret_int HE.out.symm, hg _⟩
  · have HE : Hid (ckE o p f l n pages = 2) := ckE_no (by omega) p f l n pages
    have h1' : 1 ≤ o := by omega
    have h8 : 8 < o := by omega
    clear ho
    go_enter Tryd.func13, Tryd.ntmps13
    go_wp2
    go_ret
    exact ⟨ret_int HE.out.symm, hg _⟩
set_option maxRecDepth 8000 in
set_option maxHeartbeats 8000000 in
theorem rcheck_page (w : World) (o p f l : Int) (a : Option Addr) (n c : Nat) (pages : Int) (ho : 1 ≤ o ∧ o ≤ 8 ∧ o ≠ 2 ∧ o ≠ 3 ∧ o ≠ 6 ∧ o ≠ 8) :
    Calls Tryd.prog 13 #[.agg #[.int .i64 o, .int .i64 p, .int .i64 f, .int .i64 l, .slice a n c], .int .i64 pages] w fun e w' => e = .returned (.int .i64 (ckE o p f l n pages)) ∧ Grow w w' := by
  have hg : ∀ x, Grow w (w.alloc x) := fun x => (Grow.refl w).alloc x
  obtain ⟨o1, o2, o3, o4, o5, o6⟩ := ho
  have b2 : (o == 2) = false := beq_eq_false_iff_ne.2 o3
  have b3 : (o == 3) = false := beq_eq_false_iff_ne.2 o4
  have b6 : (o != 6) = true := by simp [bne, o5]
  have b8 : (o != 8) = true := by simp [bne, o6]
  have b22 : (o != 2) = true := by simp [bne, o3]
  have b33 : (o != 3) = true := by simp [bne, o4]
  by_cases hf : f = 0
  · subst hf
    by_cases hl : l = 0
    · subst hl
      by_cases hn : n = 0
      · subst hn
        by_cases hc1 : p < 0
        · have HE : Hid (ckE o p 0 0 0 pages = 4) := by
            show ckE _ _ _ _ _ _ = _
            unfold ckE
            (repeat' split) <;> first | rfl | omega
          go_enter Tryd.func13, Tryd.ntmps13
          go_wp2
          go_ret
          exact ⟨ret_int HE.out.symm, hg _⟩
        · have hx1 : 0 ≤ p := by omega
          by_cases hc0 : pages ≤ p
          · have HE : Hid (ckE o p 0 0 0 pages = 4) := by
              show ckE _ _ _ _ _ _ = _
              unfold ckE
              (repeat' split) <;> first | rfl | omega
            go_enter Tryd.func13, Tryd.ntmps13
            go_wp2
            go_ret
            exact ⟨ret_int HE.out.symm, hg _⟩
          · have hx2 : p < pages := by omega
            have HE : Hid (ckE o p 0 0 0 pages = 0) := by
              show ckE _ _ _ _ _ _ = _
              unfold ckE
              (repeat' split) <;> first | rfl | omega
            go_enter Tryd.func13, Tryd.ntmps13
            go_wp2
            go_ret
            exact ⟨ret_int HE.out.symm, hg _⟩
      · have hn0 : 0 < (n : Int) := by omega
        have HE : Hid (ckE o p 0 0 n pages = 2) := by
          show ckE _ _ _ _ _ _ = _
          unfold ckE
          (repeat' split) <;> first | rfl | omega
        go_enter Tryd.func13, Tryd.ntmps13
        go_wp2
        go_ret
        exact ⟨ret_int HE.out.symm, hg _⟩
    · have HE : Hid (ckE o p 0 l n pages = 2) := by
        show ckE _ _ _ _ _ _ = _
        unfold ckE
        (repeat' split) <;> first | rfl | omega
      go_enter Tryd.func13, Tryd.ntmps13
      go_wp2
      go_ret
      exact ⟨ret_int HE.out.symm, hg _⟩
  · have HE : Hid (ckE o p f l n pages = 2) := by
      show ckE _ _ _ _ _ _ = _
      unfold ckE
      (repeat' split) <;> first | rfl | omega
    go_enter Tryd.func13, Tryd.ntmps13
    go_wp2
    go_ret
    exact ⟨ret_int HE.out.symm, hg _⟩
set_option maxRecDepth 8000 in
set_option maxHeartbeats 8000000 in
theorem rcheck_six (w : World) (o p f l : Int) (a : Option Addr) (n c : Nat) (pages : Int) (ho : o = 6) :
    Calls Tryd.prog 13 #[.agg #[.int .i64 o, .int .i64 p, .int .i64 f, .int .i64 l, .slice a n c], .int .i64 pages] w fun e w' => e = .returned (.int .i64 (ckE o p f l n pages)) ∧ Grow w w' := by
  have hg : ∀ x, Grow w (w.alloc x) := fun x => (Grow.refl w).alloc x
  subst ho
  by_cases hp : p = 0
  · subst hp
    by_cases hf : f = 0
    · subst hf
      by_cases hl : l = 0
      · subst hl
        by_cases hn : n = 0
        · subst hn
          have HE : Hid (ckE 6 0 0 0 0 pages = 0) := by
            show ckE _ _ _ _ _ _ = _
            unfold ckE
            (repeat' split) <;> first | rfl | omega
          go_enter Tryd.func13, Tryd.ntmps13
          go_wp2
          go_ret
          exact ⟨ret_int HE.out.symm, hg _⟩
        · have hn0 : 0 < (n : Int) := by omega
          have HE : Hid (ckE 6 0 0 0 n pages = 2) := by
            show ckE _ _ _ _ _ _ = _
            unfold ckE
            (repeat' split) <;> first | rfl | omega
          go_enter Tryd.func13, Tryd.ntmps13
          go_wp2
          go_ret
          exact ⟨ret_int HE.out.symm, hg _⟩
      · have HE : Hid (ckE 6 0 0 l n pages = 2) := by
          show ckE _ _ _ _ _ _ = _
          unfold ckE
          (repeat' split) <;> first | rfl | omega
        go_enter Tryd.func13, Tryd.ntmps13
        go_wp2
        go_ret
        exact ⟨ret_int HE.out.symm, hg _⟩
    · have HE : Hid (ckE 6 0 f l n pages = 2) := by
        show ckE _ _ _ _ _ _ = _
        unfold ckE
        (repeat' split) <;> first | rfl | omega
      go_enter Tryd.func13, Tryd.ntmps13
      go_wp2
      go_ret
      exact ⟨ret_int HE.out.symm, hg _⟩
  · have HE : Hid (ckE 6 p f l n pages = 2) := by
      show ckE _ _ _ _ _ _ = _
      unfold ckE
      (repeat' split) <;> first | rfl | omega
    go_enter Tryd.func13, Tryd.ntmps13
    go_wp2
    go_ret
    exact ⟨ret_int HE.out.symm, hg _⟩
set_option maxRecDepth 8000 in
set_option maxHeartbeats 8000000 in
theorem rcheck_eight (w : World) (o p f l : Int) (a : Option Addr) (n c : Nat) (pages : Int) (ho : o = 8) :
    Calls Tryd.prog 13 #[.agg #[.int .i64 o, .int .i64 p, .int .i64 f, .int .i64 l, .slice a n c], .int .i64 pages] w fun e w' => e = .returned (.int .i64 (ckE o p f l n pages)) ∧ Grow w w' := by
  have hg : ∀ x, Grow w (w.alloc x) := fun x => (Grow.refl w).alloc x
  subst ho
  by_cases hp : p = 0
  · subst hp
    by_cases hf : f = 0
    · subst hf
      by_cases hl : l = 0
      · subst hl
        by_cases hn : n = 0
        · subst hn
          have HE : Hid (ckE 8 0 0 0 0 pages = 0) := by
            show ckE _ _ _ _ _ _ = _
            unfold ckE
            (repeat' split) <;> first | rfl | omega
          go_enter Tryd.func13, Tryd.ntmps13
          go_wp2
          go_ret
          exact ⟨ret_int HE.out.symm, hg _⟩
        · have hn0 : 0 < (n : Int) := by omega
          have HE : Hid (ckE 8 0 0 0 n pages = 2) := by
            show ckE _ _ _ _ _ _ = _
            unfold ckE
            (repeat' split) <;> first | rfl | omega
          go_enter Tryd.func13, Tryd.ntmps13
          go_wp2
          go_ret
          exact ⟨ret_int HE.out.symm, hg _⟩
      · have HE : Hid (ckE 8 0 0 l n pages = 2) := by
          show ckE _ _ _ _ _ _ = _
          unfold ckE
          (repeat' split) <;> first | rfl | omega
        go_enter Tryd.func13, Tryd.ntmps13
        go_wp2
        go_ret
        exact ⟨ret_int HE.out.symm, hg _⟩
    · have HE : Hid (ckE 8 0 f l n pages = 2) := by
        show ckE _ _ _ _ _ _ = _
        unfold ckE
        (repeat' split) <;> first | rfl | omega
      go_enter Tryd.func13, Tryd.ntmps13
      go_wp2
      go_ret
      exact ⟨ret_int HE.out.symm, hg _⟩
  · have HE : Hid (ckE 8 p f l n pages = 2) := by
      show ckE _ _ _ _ _ _ = _
      unfold ckE
      (repeat' split) <;> first | rfl | omega
    go_enter Tryd.func13, Tryd.ntmps13
    go_wp2
    go_ret
    exact ⟨ret_int HE.out.symm, hg _⟩
end Go.Proofs.YtdafamocnjfmjaaDoor
