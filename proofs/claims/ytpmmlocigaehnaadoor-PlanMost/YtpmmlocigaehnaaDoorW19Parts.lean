/-
  The walk of the law of parts. Conditions: each theorem's own.
-/
import Derived.Test.YtpmmlocigaehnaaDoorW19Steps
namespace Go.Proofs.YtpmmlocigaehnaaDoor
open Go.RowKit
set_option linter.unusedVariables false
set_option linter.unusedSimpArgs false

/-- s[q:] of integers -/
theorem slice_fromI {B : Nat} {w : World} {a : Option Addr} {n c : Nat} {zs : List Int} (h : Rd .i64 B w (.slice a n c) zs) (q : Nat) (hq : q ≤ zs.length) :
    ∃ v', (∀ u, (Instr.slice 22 (.slice a n c) (some (.int .i64 (q : Int))) none none).run Tryd.prog u = .ok v' u) ∧ Rd .i64 B w v' (zs.drop q) := by
  have hcap := Rd.caps h
  have h0 : (0 : Int) ≤ (q : Int) := by omega
  have h1 : (q : Int) ≤ (n : Int) := by omega
  cases a with
  | none =>
    have hz : zs = [] := by
      obtain ⟨a', c', hv, e1, e2, e3⟩ := h
      injection hv with ea en ec
      subst ea
      cases zs with
      | nil => rfl
      | cons z zs => obtain ⟨b, o, e, _⟩ := e3 0 (by simp); exact absurd e (by simp)
    subst hz
    obtain rfl : q = 0 := by simpa using hq
    refine ⟨.slice none n c, fun u => ?_, by simpa using h⟩
    have h2 := run_slice_l (P := Tryd.prog) u 22 none n c (by kernel_rfl) .i64 ((0 : Nat) : Int) h0 h1
    rw [h2]
    clear h2 h hcap
    by_cases hc : c = 0
    · go_simp
    · go_simp
  | some x =>
    obtain ⟨b, o, s⟩ := x
    refine ⟨_, fun u => ?_, Rd.drop h q hq⟩
    have h2 := run_slice_l (P := Tryd.prog) u 22 (some ⟨b, o, s⟩) n c (by kernel_rfl) .i64 (q : Int) h0 h1
    rw [h2]
    clear h2 h hcap
    by_cases hc : c = q
    · go_simp
    · go_simp
theorem stores_anyV {B : Nat} (v : Value) (l : List Int) (w : World) (h : Rd .i64 B w v l) (hB : B ≤ w.heap.size) (hl : l.length ≤ 100) :
    Calls Tryd.prog 11 #[v] w fun e w' => ∃ v', e = .returned v' ∧ OwnS Sp.cs 3 (fun i => w.heap.size ≤ i) w' v' (pgsL 2 l) ∧ Grow w w' := by
  obtain ⟨a, c, e, -⟩ := id h
  subst e
  exact stores_any a c l w h hB hl
/-- the three rows, as the law reads them -/
theorem getD_left (A B : List Sp) {j : Nat} (h : j < A.length) : (A ++ B).getD j Sp.zero = A.getD j Sp.zero := by
  simp [List.getD, List.getElem?_append_left h]
theorem getD_right (A B : List Sp) {j : Nat} (h : A.length ≤ j) : (A ++ B).getD j Sp.zero = B.getD (j - A.length) Sp.zero := by
  simp [List.getD, List.getElem?_append_right h]

set_option maxHeartbeats 8000000 in
theorem planParts_walk (a : Option Addr) (n c : Nat) (z : List Int) (at' : Int) (W : World) (hT : Tab W) (hz : Rd .i64 W.heap.size W (.slice a n c) z) (wa : (Lit.int .i64 at').wf = true) :
    Calls Tryd.prog 7 #[.slice a n c, .int .i64 at'] W fun e w' => e = .returned (.bool true) ∧ Grow W w' := by
  obtain ⟨hr, hK8, hs⟩ := first_few hz 8 8 rfl
  generalize z.take 8 = K at hr hK8 hs
  have ka := fun u : World => around_any at' (K.length + 1) u wa (by omega) (by omega)
  have hbd := around_bd at' (K.length + 1) (by omega)
  obtain ⟨k, hk⟩ : ∃ k : Nat, around at' (K.length + 1) = (k : Int) := ⟨(around at' (K.length + 1)).toNat, by omega⟩
  rw [hk] at ka hbd
  have hkl : k ≤ K.length := by omega
  have hkw : IntKind.i64.wrap ((K.length : Int) + 1) = (K.length : Int) + 1 := by rw [IntKind.wrap_i64]; omega
  have hs1 := slice_toI hr k hkl (k : Int) rfl
  have r1 := hr.take k hkl
  obtain ⟨vd, hs2, r2⟩ := slice_fromI hr k hkl
  have hd8 : (K.drop k).length ≤ 8 := by rw [List.length_drop]; omega
  have ht8 : (K.take k).length ≤ 8 := by rw [List.length_take]; omega
  have k1 := hid (fun (u : World) (g : Grow W u) => stores_anyV (.slice a k c) (K.take k) u (grow_rd r1 g (Nat.le_refl _)) g.size (by omega))
  have k2 := hid (fun (u : World) (g : Grow W u) => stores_anyV vd (K.drop k) u (grow_rd r2 g (Nat.le_refl _)) g.size (by omega))
  have k3 := hid (fun (u : World) (g : Grow W u) => stores_any a c K u (grow_rd hr g (Nat.le_refl _)) g.size (by omega))
  have k4 := hid (fun (u : World) (g : Grow W u) => lives_any u (hT.grow g))
  have HE : Hid (pgsL 2 K = pgsL 2 (K.take k) ++ pgsL 2 (K.drop k)) := by show _ = _; rw [← pgsL_app, List.take_append_drop]
  have HLA : Hid ((pgsL 2 (K.take k)).length ≤ 16 ∧ (pgsL 2 (K.drop k)).length ≤ 16) := ⟨by rw [pgsL_len]; omega, by rw [pgsL_len]; omega⟩
  generalize pgsL 2 (K.take k) = LA at k1 HE HLA
  generalize pgsL 2 (K.drop k) = LB at k2 HE HLA
  generalize pgsL 2 K = L at k3 HE
  clear hz hr hK8 hT wa hk hbd hkl r1 r2 hd8 ht8
  generalize K.length = q at hs ka hkw hs1 hs2 k3
  go_enter Tryd.func7, Tryd.ntmps7
  go_wp2_with fail
  clear hs
  refine (ka W).mono ?_
  rintro e w1 ⟨rfl, rfl⟩
  clear ka hkw
  go_wp2_with fail
  clear hs1
  refine (k1.out W (Grow.refl _)).mono ?_
  rintro e w1 ⟨va, rfl, o1, g1⟩
  have H1 := hid (And.intro o1 g1)
  clear o1 g1 k1
  go_wp2_with fail
  clear hs2
  refine (k2.out w1 H1.out.2).mono ?_
  rintro e w2 ⟨vb, rfl, o2, g2⟩
  have H2 := hid (And.intro (And.intro (H1.out.1.grow g2) o2) (H1.out.2.trans g2))
  clear o2 g2 k2 H1
  go_wp2_with fail
  refine (k3.out w2 H2.out.2).mono ?_
  rintro e w3 ⟨vx, rfl, o3, g3⟩
  have H3 := hid (And.intro (And.intro ((H2.out.1.1.grow g3).rd) (And.intro ((H2.out.1.2.grow g3).rd) o3.rd)) (H2.out.2.trans g3))
  clear o3 g3 k3 H2
  obtain ⟨aa, ca, ea⟩ := RdS.shape H3.out.1.1
  obtain ⟨ab, cb, eb⟩ := RdS.shape H3.out.1.2.1
  obtain ⟨ax, cx, ex⟩ := RdS.shape H3.out.1.2.2
  subst ea eb ex
  have hl : L.length = LA.length + LB.length := by rw [HE.out, List.length_append]
  have hla := HLA.out
  have hwl : IntKind.i64.wrap ((LA.length : Int) + (LB.length : Int)) = (L.length : Int) := by rw [IntKind.wrap_i64]; omega
  have HL := hid hl
  clear hl hla
  go_wp2
  clear hwl
  go_loopg [10] L.length (fun m iv wr => ∃ j : Nat, m = L.length - j ∧ j ≤ L.length ∧ iv = .int .i64 j ∧ Hid (Grow w3 wr))
  case atStart => exact ⟨0, rfl, Nat.zero_le _, rfl, Grow.refl _⟩
  case round =>
    obtain ⟨j, hk, hj, rfl, HX⟩ := hrel
    have hla := HLA.out
    have hl := HL.out
    by_cases hlt : j < L.length
    · have hlt' : (j : Int) < (L.length : Int) := by omega
      have HJ : Hid (j < L.length ∧ gk = L.length - j) := ⟨hlt, hk⟩
      have hw1 : IntKind.i64.wrap ((j : Int) + 1) = ((j + 1 : Nat) : Int) := by rw [IntKind.wrap_i64]; omega
      obtain ⟨x, hx⟩ : ∃ x, L.getD j Sp.zero = x := ⟨_, rfl⟩
      obtain ⟨bx, ox, e1, hc⟩ := rdSp_at H3.out.1.2.2 hlt x hx
      subst e1
      by_cases hja : j < LA.length
      · have hja' : (j : Int) < (LA.length : Int) := by omega
        have hja2 : ¬ (LA.length : Int) ≤ (j : Int) := by omega
        have hja3 : ¬ LA.length ≤ j := by omega
        obtain ⟨by', oy, e2, hc'⟩ := rdSp_at H3.out.1.1 hja x (by rw [← hx, HE.out, getD_left _ _ hja])
        subst e2
        obtain ⟨xo, xp, xk⟩ := x
        have fz : ∀ w', Grow wr.drew w' → (w'.cell? ⟨bx, ox + j * 3, none⟩ = some (.int .i64 xo) ∧ w'.cell? ⟨bx, ox + j * 3 + 1, none⟩ = some (.int .i64 xp) ∧ w'.cell? ⟨bx, ox + j * 3 + 2, none⟩ = some (.int .i64 xk)) ∧ (w'.cell? ⟨by', oy + j * 3, none⟩ = some (.int .i64 xo) ∧ w'.cell? ⟨by', oy + j * 3 + 1, none⟩ = some (.int .i64 xp) ∧ w'.cell? ⟨by', oy + j * 3 + 2, none⟩ = some (.int .i64 xk)) := fun w' g => ⟨hc w' ((HX.out.drew).trans g), hc' w' ((HX.out.drew).trans g)⟩
        have HF := hid (HX.out.drew)
        clear hc hc' hk hj hlt hx HX hla hl
        go_wp2
        refine wp_region_sched (by kernel_rfl) [(0, false), (1, false), (2, false), (3, false), (4, false), (5, false), (6, false), (7, false), (8, false), (9, false), (10, false), (11, false), (12, false), (13, false), (14, false)] (by kernel_rfl) (by kernel_rfl) rfl (fun _ _ d _ _ h => by cases d <;> exact h) ?_
        simp only [inOrder, List.filterMap_cons, List.filterMap_nil, List.getElem?_toArray, List.getElem?_cons_zero, List.getElem?_cons_succ, Option.map_some]
        repeat (first
          | (refine wpS_move rfl ?_; simp only [Act.eval, Act.put, Array.getD_eq_getD_getElem?, List.getElem?_toArray, List.getElem?_cons_zero, List.getElem?_cons_succ, Option.getD_some, List.setIfInBounds_toArray, List.set_cons_zero, List.set_cons_succ])
          | (refine wpS_assign rfl ?_; simp only [Act.eval, Act.put, Array.getD_eq_getD_getElem?, List.getElem?_toArray, List.getElem?_cons_zero, List.getElem?_cons_succ, Option.getD_some, List.setIfInBounds_toArray, List.set_cons_zero, List.set_cons_succ])
          | (refine wpS_read (v := ?_) rfl ?_ ?_; rotate_left; (focus (intro w' hG; (obtain ⟨⟨y0, y1, y2⟩, y3, y4, y5⟩ := fz w' hG); go_simp; try (with_reducible rfl))); simp only [Act.put, List.setIfInBounds_toArray, List.set_cons_zero, List.set_cons_succ])
          | (refine wpS_skip rfl ?_; simp only [Act.put, List.setIfInBounds_toArray, List.set_cons_zero, List.set_cons_succ]))
        refine wpS_nil ?_
        clear fz
        go_wp2
        refine wp_region_sched (by kernel_rfl) [(0, false), (1, false), (2, false), (3, false), (4, false), (5, false), (6, false), (7, false), (8, false), (9, false), (10, false), (11, false), (12, false), (13, false), (14, false), (15, false), (16, false), (17, false)] (by kernel_rfl) (by kernel_rfl) rfl (fun _ _ d _ _ h => by cases d <;> exact h) ?_
        simp only [inOrder, List.filterMap_cons, List.filterMap_nil, List.getElem?_toArray, List.getElem?_cons_zero, List.getElem?_cons_succ, Option.map_some]
        repeat (first
          | (refine wpS_move rfl ?_; simp only [Act.eval, Act.put, Array.getD_eq_getD_getElem?, List.getElem?_toArray, List.getElem?_cons_zero, List.getElem?_cons_succ, Option.getD_some, List.setIfInBounds_toArray, List.set_cons_zero, List.set_cons_succ])
          | (refine wpS_assign rfl ?_; simp only [Act.eval, Act.put, Array.getD_eq_getD_getElem?, List.getElem?_toArray, List.getElem?_cons_zero, List.getElem?_cons_succ, Option.getD_some, List.setIfInBounds_toArray, List.set_cons_zero, List.set_cons_succ])
          | (refine wpS_read (v := ?_) rfl ?_ ?_; rotate_left; (focus (intro w' hG; skip; go_simp; try (with_reducible rfl))); simp only [Act.put, List.setIfInBounds_toArray, List.set_cons_zero, List.set_cons_succ])
          | (refine wpS_skip rfl ?_; simp only [Act.put, List.setIfInBounds_toArray, List.set_cons_zero, List.set_cons_succ]))
        refine wpS_nil ?_
        go_wp2
        go_roundg (L.length - (j + 1))
        case measure => have := HJ.out; omega
        case rel => exact ⟨j + 1, rfl, HJ.out.1, by first | rfl | go_num, (HF.out.drew)⟩
      · have hja' : ¬ (j : Int) < (LA.length : Int) := by omega
        have hja2 : (LA.length : Int) ≤ (j : Int) := by omega
        have hja3 : LA.length ≤ j := by omega
        obtain ⟨i, hi⟩ : ∃ i, i = j - LA.length := ⟨_, rfl⟩
        have hib : i < LB.length := by omega
        have hib' : (i : Int) < (LB.length : Int) := by omega
        have hsub : IntKind.i64.wrap ((j : Int) - (LA.length : Int)) = (i : Int) := by rw [IntKind.wrap_i64]; omega
        obtain ⟨by', oy, e2, hc'⟩ := rdSp_at H3.out.1.2.1 hib x (by rw [← hx, HE.out, getD_right _ _ (by omega), hi])
        subst e2
        obtain ⟨xo, xp, xk⟩ := x
        have fz : ∀ w', Grow wr.drew.drew w' → (w'.cell? ⟨bx, ox + j * 3, none⟩ = some (.int .i64 xo) ∧ w'.cell? ⟨bx, ox + j * 3 + 1, none⟩ = some (.int .i64 xp) ∧ w'.cell? ⟨bx, ox + j * 3 + 2, none⟩ = some (.int .i64 xk)) ∧ (w'.cell? ⟨by', oy + i * 3, none⟩ = some (.int .i64 xo) ∧ w'.cell? ⟨by', oy + i * 3 + 1, none⟩ = some (.int .i64 xp) ∧ w'.cell? ⟨by', oy + i * 3 + 2, none⟩ = some (.int .i64 xk)) := fun w' g => ⟨hc w' ((HX.out.drew.drew).trans g), hc' w' ((HX.out.drew.drew).trans g)⟩
        have HF := hid (HX.out.drew.drew)
        clear hc hc' hk hj hlt hx HX hla hl hi hib
        go_wp2
        refine wp_region_sched (by kernel_rfl) [(0, false), (1, false), (2, false), (3, false), (4, false), (5, false), (6, false), (7, false), (8, false), (9, false), (10, false), (11, false), (12, false), (13, false), (14, false)] (by kernel_rfl) (by kernel_rfl) rfl (fun _ _ d _ _ h => by cases d <;> exact h) ?_
        simp only [inOrder, List.filterMap_cons, List.filterMap_nil, List.getElem?_toArray, List.getElem?_cons_zero, List.getElem?_cons_succ, Option.map_some]
        repeat (first
          | (refine wpS_move rfl ?_; simp only [Act.eval, Act.put, Array.getD_eq_getD_getElem?, List.getElem?_toArray, List.getElem?_cons_zero, List.getElem?_cons_succ, Option.getD_some, List.setIfInBounds_toArray, List.set_cons_zero, List.set_cons_succ])
          | (refine wpS_assign rfl ?_; simp only [Act.eval, Act.put, Array.getD_eq_getD_getElem?, List.getElem?_toArray, List.getElem?_cons_zero, List.getElem?_cons_succ, Option.getD_some, List.setIfInBounds_toArray, List.set_cons_zero, List.set_cons_succ])
          | (refine wpS_read (v := ?_) rfl ?_ ?_; rotate_left; (focus (intro w' hG; skip; go_simp; try (with_reducible rfl))); simp only [Act.put, List.setIfInBounds_toArray, List.set_cons_zero, List.set_cons_succ])
          | (refine wpS_skip rfl ?_; simp only [Act.put, List.setIfInBounds_toArray, List.set_cons_zero, List.set_cons_succ]))
        refine wpS_nil ?_
        go_wp2
        refine wp_region_sched (by kernel_rfl) [(0, false), (1, false), (2, false), (3, false), (4, false), (5, false), (6, false), (7, false), (8, false), (9, false), (10, false), (11, false), (12, false), (13, false), (14, false), (15, false), (16, false), (17, false)] (by kernel_rfl) (by kernel_rfl) rfl (fun _ _ d _ _ h => by cases d <;> exact h) ?_
        simp only [inOrder, List.filterMap_cons, List.filterMap_nil, List.getElem?_toArray, List.getElem?_cons_zero, List.getElem?_cons_succ, Option.map_some]
        repeat (first
          | (refine wpS_move rfl ?_; simp only [Act.eval, Act.put, Array.getD_eq_getD_getElem?, List.getElem?_toArray, List.getElem?_cons_zero, List.getElem?_cons_succ, Option.getD_some, List.setIfInBounds_toArray, List.set_cons_zero, List.set_cons_succ])
          | (refine wpS_assign rfl ?_; simp only [Act.eval, Act.put, Array.getD_eq_getD_getElem?, List.getElem?_toArray, List.getElem?_cons_zero, List.getElem?_cons_succ, Option.getD_some, List.setIfInBounds_toArray, List.set_cons_zero, List.set_cons_succ])
          | (refine wpS_read (v := ?_) rfl ?_ ?_; rotate_left; (focus (intro w' hG; (obtain ⟨⟨y0, y1, y2⟩, y3, y4, y5⟩ := fz w' hG); go_simp; try (with_reducible rfl))); simp only [Act.put, List.setIfInBounds_toArray, List.set_cons_zero, List.set_cons_succ])
          | (refine wpS_skip rfl ?_; simp only [Act.put, List.setIfInBounds_toArray, List.set_cons_zero, List.set_cons_succ]))
        refine wpS_nil ?_
        clear fz
        go_wp2
        go_roundg (L.length - (j + 1))
        case measure => have := HJ.out; omega
        case rel => exact ⟨j + 1, rfl, HJ.out.1, by first | rfl | go_num, HF.out⟩
    · have hlt' : ¬ (j : Int) < (L.length : Int) := by omega
      clear hk hj hlt hla hl
      go_wp2_with fail
      refine (k4.out wr (H3.out.2.trans HX.out)).mono ?_
      rintro e w5 ⟨rfl, g5⟩
      have HF := hid ((H3.out.2.trans HX.out).trans g5)
      clear g5
      go_wp2
      go_ret
      exact ⟨rfl, HF.out⟩
end Go.Proofs.YtpmmlocigaehnaaDoor
