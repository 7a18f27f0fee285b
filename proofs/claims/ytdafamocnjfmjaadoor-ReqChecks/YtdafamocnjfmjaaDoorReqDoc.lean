/-
  The walk of the document's Check. Conditions: the theorem's own.
-/
import Derived.Test.YtdafamocnjfmjaaDoorReqDocA
namespace Go.Proofs.YtdafamocnjfmjaaDoor
open Go.RowKit
set_option linter.unusedVariables false
set_option linter.unusedSimpArgs false

set_option maxRecDepth 8000 in
set_option maxHeartbeats 8000000 in
theorem rcheck_read (w : World) (o p f l : Int) (a : Option Addr) (n c : Nat) (pages : Int) (ho : o = 2) :
    Calls Tryd.prog 13 #[.agg #[.int .i64 o, .int .i64 p, .int .i64 f, .int .i64 l, .slice a n c], .int .i64 pages] w fun e w' => e = .returned (.int .i64 (ckE o p f l n pages)) ∧ Grow w w' := by
  have hg : ∀ x, Grow w (w.alloc x) := fun x => (Grow.refl w).alloc x
  subst ho
  by_cases hn : n = 0
  · subst hn
    by_cases hc5 : p < 0
    · have HE : Hid (ckE 2 p f l 0 pages = 4) := by
        show ckE _ _ _ _ _ _ = _
        unfold ckE
        (repeat' split) <;> first | rfl | omega
      go_enter Tryd.func13, Tryd.ntmps13
      go_wp2
      go_ret
      exact ⟨ret_int HE.out.symm, hg _⟩
    · have hx1 : 0 ≤ p := by omega
      by_cases hc4 : pages ≤ p
      · have HE : Hid (ckE 2 p f l 0 pages = 4) := by
          show ckE _ _ _ _ _ _ = _
          unfold ckE
          (repeat' split) <;> first | rfl | omega
        go_enter Tryd.func13, Tryd.ntmps13
        go_wp2
        go_ret
        exact ⟨ret_int HE.out.symm, hg _⟩
      · have hx2 : p < pages := by omega
        by_cases hc3 : f < 0
        · have HE : Hid (ckE 2 p f l 0 pages = 4) := by
            show ckE _ _ _ _ _ _ = _
            unfold ckE
            (repeat' split) <;> first | rfl | omega
          go_enter Tryd.func13, Tryd.ntmps13
          go_wp2
          go_ret
          exact ⟨ret_int HE.out.symm, hg _⟩
        · have hx3 : 0 ≤ f := by omega
          by_cases hc2 : 32 < f
          · have HE : Hid (ckE 2 p f l 0 pages = 4) := by
              show ckE _ _ _ _ _ _ = _
              unfold ckE
              (repeat' split) <;> first | rfl | omega
            go_enter Tryd.func13, Tryd.ntmps13
            go_wp2
            go_ret
            exact ⟨ret_int HE.out.symm, hg _⟩
          · have hx4 : f ≤ 32 := by omega
            have hwf : IntKind.i64.wrap (32 - f) = 32 - f := by rw [IntKind.wrap_i64]; omega
            by_cases hc1 : l < 0
            · have HE : Hid (ckE 2 p f l 0 pages = 4) := by
                show ckE _ _ _ _ _ _ = _
                unfold ckE
                (repeat' split) <;> first | rfl | omega
              go_enter Tryd.func13, Tryd.ntmps13
              go_wp2
              go_ret
              exact ⟨ret_int HE.out.symm, hg _⟩
            · have hx5 : 0 ≤ l := by omega
              by_cases hc0 : 32 - f < l
              · have HE : Hid (ckE 2 p f l 0 pages = 4) := by
                  show ckE _ _ _ _ _ _ = _
                  unfold ckE
                  (repeat' split) <;> first | rfl | omega
                go_enter Tryd.func13, Tryd.ntmps13
                go_wp2
                go_ret
                exact ⟨ret_int HE.out.symm, hg _⟩
              · have hx6 : l ≤ 32 - f := by omega
                have HE : Hid (ckE 2 p f l 0 pages = 0) := by
                  show ckE _ _ _ _ _ _ = _
                  unfold ckE
                  (repeat' split) <;> first | rfl | omega
                go_enter Tryd.func13, Tryd.ntmps13
                go_wp2
                go_ret
                exact ⟨ret_int HE.out.symm, hg _⟩
  · have hn0 : 0 < (n : Int) := by omega
    have HE : Hid (ckE 2 p f l n pages = 2) := by
      show ckE _ _ _ _ _ _ = _
      unfold ckE
      (repeat' split) <;> first | rfl | omega
    go_enter Tryd.func13, Tryd.ntmps13
    go_wp2
    go_ret
    exact ⟨ret_int HE.out.symm, hg _⟩
set_option maxRecDepth 8000 in
set_option maxHeartbeats 8000000 in
theorem rcheck_write (w : World) (o p f l : Int) (a : Option Addr) (n c : Nat) (pages : Int) (ho : o = 3) :
    Calls Tryd.prog 13 #[.agg #[.int .i64 o, .int .i64 p, .int .i64 f, .int .i64 l, .slice a n c], .int .i64 pages] w fun e w' => e = .returned (.int .i64 (ckE o p f l n pages)) ∧ Grow w w' := by
  have hg : ∀ x, Grow w (w.alloc x) := fun x => (Grow.refl w).alloc x
  subst ho
  by_cases hl : l = 0
  · subst hl
    by_cases hc4 : p < 0
    · have HE : Hid (ckE 3 p f 0 n pages = 4) := by
        show ckE _ _ _ _ _ _ = _
        unfold ckE
        (repeat' split) <;> first | rfl | omega
      go_enter Tryd.func13, Tryd.ntmps13
      go_wp2
      go_ret
      exact ⟨ret_int HE.out.symm, hg _⟩
    · have hx1 : 0 ≤ p := by omega
      by_cases hc3 : pages ≤ p
      · have HE : Hid (ckE 3 p f 0 n pages = 4) := by
          show ckE _ _ _ _ _ _ = _
          unfold ckE
          (repeat' split) <;> first | rfl | omega
        go_enter Tryd.func13, Tryd.ntmps13
        go_wp2
        go_ret
        exact ⟨ret_int HE.out.symm, hg _⟩
      · have hx2 : p < pages := by omega
        by_cases hc2 : f < 0
        · have HE : Hid (ckE 3 p f 0 n pages = 4) := by
            show ckE _ _ _ _ _ _ = _
            unfold ckE
            (repeat' split) <;> first | rfl | omega
          go_enter Tryd.func13, Tryd.ntmps13
          go_wp2
          go_ret
          exact ⟨ret_int HE.out.symm, hg _⟩
        · have hx3 : 0 ≤ f := by omega
          by_cases hc1 : 32 < f
          · have HE : Hid (ckE 3 p f 0 n pages = 4) := by
              show ckE _ _ _ _ _ _ = _
              unfold ckE
              (repeat' split) <;> first | rfl | omega
            go_enter Tryd.func13, Tryd.ntmps13
            go_wp2
            go_ret
            exact ⟨ret_int HE.out.symm, hg _⟩
          · have hx4 : f ≤ 32 := by omega
            have hwf : IntKind.i64.wrap (32 - f) = 32 - f := by rw [IntKind.wrap_i64]; omega
            by_cases hc0 : 32 - f < (n : Int)
            · have HE : Hid (ckE 3 p f 0 n pages = 4) := by
                show ckE _ _ _ _ _ _ = _
                unfold ckE
                (repeat' split) <;> first | rfl | omega
              go_enter Tryd.func13, Tryd.ntmps13
              go_wp2
              go_ret
              exact ⟨ret_int HE.out.symm, hg _⟩
            · have hx7 : (n : Int) ≤ 32 - f := by omega
              have HE : Hid (ckE 3 p f 0 n pages = 0) := by
                show ckE _ _ _ _ _ _ = _
                unfold ckE
                (repeat' split) <;> first | rfl | omega
              go_enter Tryd.func13, Tryd.ntmps13
              go_wp2
              go_ret
              exact ⟨ret_int HE.out.symm, hg _⟩
  · have HE : Hid (ckE 3 p f l n pages = 2) := by
      show ckE _ _ _ _ _ _ = _
      unfold ckE
      (repeat' split) <;> first | rfl | omega
    go_enter Tryd.func13, Tryd.ntmps13
    go_wp2
    go_ret
    exact ⟨ret_int HE.out.symm, hg _⟩
theorem rcheck_any (w : World) (o p f l : Int) (a : Option Addr) (n c : Nat) (pages : Int) :
    Calls Tryd.prog 13 #[.agg #[.int .i64 o, .int .i64 p, .int .i64 f, .int .i64 l, .slice a n c], .int .i64 pages] w fun e w' => e = .returned (.int .i64 (ckE o p f l n pages)) ∧ Grow w w' := by
  by_cases h : o < 1 ∨ 8 < o
  · exact rcheck_out w o p f l a n c pages h
  by_cases h2 : o = 2
  · exact rcheck_read w o p f l a n c pages h2
  by_cases h3 : o = 3
  · exact rcheck_write w o p f l a n c pages h3
  by_cases h6 : o = 6
  · exact rcheck_six w o p f l a n c pages h6
  by_cases h8 : o = 8
  · exact rcheck_eight w o p f l a n c pages h8
  exact rcheck_page w o p f l a n c pages ⟨by omega, by omega, h2, h3, h6, h8⟩
end Go.Proofs.YtdafamocnjfmjaaDoor
