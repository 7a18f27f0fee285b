/-
  The walk of the law's comparison of rows of steps, of rows that are the same. Conditions: each theorem's own.
-/
import Derived.Test.YtpmmlocigaehnaaDoorPlnG
namespace Go.Proofs.YtpmmlocigaehnaaDoor
open Go.RowKit
set_option linter.unusedVariables false
set_option linter.unusedSimpArgs false

theorem rdSp_at {p : Nat → Prop} {w : World} {a : Option Addr} {n c : Nat} {L : List Sp} (h : RdS Sp.cs 3 p w (.slice a n c) L) {i : Nat} (hi : i < L.length) (x : Sp) (hx : L.getD i Sp.zero = x) : ∃ b o, a = some ⟨b, o, none⟩ ∧ ∀ w', Grow w w' → w'.cell? ⟨b, o + i * 3, none⟩ = some (.int .i64 x.o) ∧ w'.cell? ⟨b, o + i * 3 + 1, none⟩ = some (.int .i64 x.p) ∧ w'.cell? ⟨b, o + i * 3 + 2, none⟩ = some (.int .i64 x.k) := by
  obtain ⟨b, o, e, hp, hb, hc⟩ := RdS.at h spk Sp.zero hi
  refine ⟨b, o, e, fun w' g => ?_⟩
  have hh : ∀ j, j < 3 → w'.cell? ⟨b, o + i * 3 + j, none⟩ = (Sp.cs (L.getD i Sp.zero))[j]? := fun j hj => by rw [Below.cell (p := ⟨b, o + i * 3 + j, none⟩) g hb]; exact hc j hj
  rw [hx] at hh
  exact ⟨hh 0 (by omega), hh 1 (by omega), hh 2 (by omega)⟩

set_option maxHeartbeats 4000000 in
theorem same_any {p q : Nat → Prop} (v u : Value) (L : List Sp) (w : World) (h1 : RdS Sp.cs 3 p w v L) (h2 : RdS Sp.cs 3 q w u L) :
    Calls Tryd.prog 8 #[v, u] w fun e w' => e = .returned (.bool true) ∧ Grow w w' := by
  have hll := RdS.len h1
  unfold maxLen at hll
  have HA := hid h1
  have HB := hid h2
  obtain ⟨a, c, rfl⟩ := RdS.shape h1
  obtain ⟨a', c', rfl⟩ := RdS.shape h2
  clear h1 h2
  go_enter Tryd.func8, Tryd.ntmps8
  go_wp2
  go_loopg [5] L.length (fun m iv wr => ∃ j : Nat, m = L.length - j ∧ j ≤ L.length ∧ iv = .int .i64 j ∧ Hid (Grow w wr))
  case atStart => exact ⟨0, rfl, Nat.zero_le _, rfl, Grow.refl _⟩
  case round =>
    obtain ⟨j, hk, hj, rfl, HX⟩ := hrel
    by_cases hlt : j < L.length
    · have hlt' : (j : Int) < (L.length : Int) := by omega
      have HJ : Hid (j < L.length ∧ gk = L.length - j) := ⟨hlt, hk⟩
      have hw1 : IntKind.i64.wrap ((j : Int) + 1) = ((j + 1 : Nat) : Int) := by rw [IntKind.wrap_i64]; omega
      obtain ⟨x, hx⟩ : ∃ x, L.getD j Sp.zero = x := ⟨_, rfl⟩
      obtain ⟨bb, oo, e1, hc⟩ := rdSp_at HA.out hlt x hx
      obtain ⟨bb', oo', e2, hc'⟩ := rdSp_at HB.out hlt x hx
      subst e1 e2
      obtain ⟨xo, xp, xk⟩ := x
      have fz : ∀ w', Grow wr.drew w' → (w'.cell? ⟨bb, oo + j * 3, none⟩ = some (.int .i64 xo) ∧ w'.cell? ⟨bb, oo + j * 3 + 1, none⟩ = some (.int .i64 xp) ∧ w'.cell? ⟨bb, oo + j * 3 + 2, none⟩ = some (.int .i64 xk)) ∧ (w'.cell? ⟨bb', oo' + j * 3, none⟩ = some (.int .i64 xo) ∧ w'.cell? ⟨bb', oo' + j * 3 + 1, none⟩ = some (.int .i64 xp) ∧ w'.cell? ⟨bb', oo' + j * 3 + 2, none⟩ = some (.int .i64 xk)) := fun w' g => ⟨hc w' ((HX.out.drew).trans g), hc' w' ((HX.out.drew).trans g)⟩
      have HF := hid (HX.out.drew)
      clear hc hc' hk hj hlt hx HX
      go_wp2
      refine wp_region_sched (by kernel_rfl) [(0, false), (1, false), (2, false), (3, false), (4, false), (5, false), (6, false), (7, false), (8, false)] (by kernel_rfl) (by kernel_rfl) rfl (fun _ _ d _ _ h => by cases d <;> exact h) ?_
      simp only [inOrder, List.filterMap_cons, List.filterMap_nil, List.getElem?_toArray, List.getElem?_cons_zero, List.getElem?_cons_succ, Option.map_some]
      repeat (first
        | (refine wpS_move rfl ?_; simp only [Act.eval, Act.put, Array.getD_eq_getD_getElem?, List.getElem?_toArray, List.getElem?_cons_zero, List.getElem?_cons_succ, Option.getD_some, List.setIfInBounds_toArray, List.set_cons_zero, List.set_cons_succ])
        | (refine wpS_assign rfl ?_; simp only [Act.eval, Act.put, Array.getD_eq_getD_getElem?, List.getElem?_toArray, List.getElem?_cons_zero, List.getElem?_cons_succ, Option.getD_some, List.setIfInBounds_toArray, List.set_cons_zero, List.set_cons_succ])
        | (refine wpS_read (v := ?_) rfl ?_ ?_; rotate_left; (focus (intro w' hG; (obtain ⟨⟨y0, y1, y2⟩, y3, y4, y5⟩ := fz w' hG); go_simp; try (with_reducible rfl))); simp only [Act.put, List.setIfInBounds_toArray, List.set_cons_zero, List.set_cons_succ])
        | (refine wpS_skip rfl ?_; simp only [Act.put, List.setIfInBounds_toArray, List.set_cons_zero, List.set_cons_succ]))
      refine wpS_nil ?_
      clear fz
      go_wp2
      go_roundg (L.length - (j + 1))
      case measure => have := HJ.out; omega
      case rel => exact ⟨j + 1, rfl, HJ.out.1, by first | rfl | go_num, HF.out⟩
    · have hlt' : ¬ (j : Int) < (L.length : Int) := by omega
      clear hk hj hlt
      go_wp2
      go_ret
      exact ⟨rfl, HX.out⟩
end Go.Proofs.YtpmmlocigaehnaaDoor
