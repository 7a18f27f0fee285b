/-
  The walk of the law of the steps' row. Conditions: each theorem's own.
-/
import Derived.Test.YtpmmlocigaehnaaDoorW19Most
namespace Go.Proofs.YtpmmlocigaehnaaDoor
open Go.RowKit
set_option linter.unusedVariables false
set_option linter.unusedSimpArgs false

/-- what the law asks of each step: stores first, up to m, and behind them loads, or the barrier as the last one -/
def StepOk (L : List Sp) (m j : Nat) (x : Sp) : Prop :=
  (j < m ∧ x.o = 2 ∧ x.k = ((j % 2 : Nat) : Int)) ∨ (m ≤ j ∧ x.o = 1 ∧ x.k = ((j % 2 : Nat) : Int)) ∨ (m ≤ j ∧ x.o = 3 ∧ x.p = 0 ∧ x.k = 0 ∧ j + 1 = L.length)
def RowOk (L : List Sp) : Prop := L.length ≤ 100 ∧ ∃ m, ∀ j, j < L.length → StepOk L m j (L.getD j Sp.zero)
theorem flL_ok (K : List Int) (h : K.length ≤ 6) : RowOk (flL K) := by
  refine ⟨by rw [flL_len]; omega, 2 * K.length, fun j hj => ?_⟩
  have hl := pgsL_len 2 K
  rw [flL_len] at hj
  by_cases h : j < 2 * K.length
  · have e := pgsL_at 2 K j h
    have : (flL K).getD j Sp.zero = ⟨2, K.getD (j / 2) 0, ((j % 2 : Nat) : Int)⟩ := by
      unfold flL
      rw [List.getD, List.getElem?_append_left (by omega), e]; rfl
    rw [this]
    exact .inl ⟨h, rfl, rfl⟩
  · obtain rfl : j = 2 * K.length := by omega
    have : (flL K).getD (2 * K.length) Sp.zero = ⟨3, 0, 0⟩ := by
      unfold flL
      rw [List.getD, List.getElem?_append_right (by omega), hl, Nat.sub_self]; rfl
    rw [this]
    exact .inr (.inr ⟨Nat.le_refl _, rfl, rfl, rfl, by rw [flL_len]⟩)
theorem feL_ok (p : Int) (d : Bool) (old : Int) : RowOk (feL p d old) := by
  cases d with
  | true =>
    refine ⟨by show 4 ≤ 100; omega, 2, fun j hj => ?_⟩
    have hj' : j < 4 := hj
    rcases (show j = 0 ∨ j = 1 ∨ j = 2 ∨ j = 3 by omega) with rfl | rfl | rfl | rfl
    · exact .inl ⟨by omega, rfl, rfl⟩
    · exact .inl ⟨by omega, rfl, rfl⟩
    · exact .inr (.inl ⟨by omega, rfl, rfl⟩)
    · exact .inr (.inl ⟨by omega, rfl, rfl⟩)
  | false =>
    refine ⟨by show 2 ≤ 100; omega, 0, fun j hj => ?_⟩
    have hj' : j < 2 := hj
    rcases (show j = 0 ∨ j = 1 by omega) with rfl | rfl
    · exact .inr (.inl ⟨by omega, rfl, rfl⟩)
    · exact .inr (.inl ⟨by omega, rfl, rfl⟩)

/-- the rows of steps laid side by side -/
def RowsAt (w : World) (bb : Nat) : Prop := ∀ i, i < 3 → ∃ v L, (∀ u, Grow w u → u.cell? ⟨bb, i, none⟩ = some v) ∧ RdS Sp.cs 3 (fun _ => True) w v L ∧ RowOk L
theorem RowsAt.new (w : World) (t : TypeId) (v0 v1 v2 : Value) (L0 L1 L2 : List Sp) (h0 : RdS Sp.cs 3 (fun _ => True) w v0 L0) (h1 : RdS Sp.cs 3 (fun _ => True) w v1 L1) (h2 : RdS Sp.cs 3 (fun _ => True) w v2 L2) (k0 : RowOk L0) (k1 : RowOk L1) (k2 : RowOk L2) :
    RowsAt (w.alloc (.cells #[v0, v1, v2] t)) w.heap.size := fun i hi => by
  have hv := VarAt.new w [v0, v1, v2] t
  have g : Grow w (w.alloc (.cells #[v0, v1, v2] t)) := (Grow.refl w).alloc _
  rcases (show i = 0 ∨ i = 1 ∨ i = 2 by omega) with rfl | rfl | rfl
  · exact ⟨v0, L0, fun u gu => (hv.grow gu).three.1.1, h0.grow g, k0⟩
  · exact ⟨v1, L1, fun u gu => (hv.grow gu).three.1.2.1, h1.grow g, k1⟩
  · exact ⟨v2, L2, fun u gu => (hv.grow gu).three.1.2.2, h2.grow g, k2⟩
theorem RowsAt.grow {w w' : World} {bb : Nat} (h : RowsAt w bb) (g : Grow w w') : RowsAt w' bb := fun i hi => by
  obtain ⟨v, L, h1, h2, h3⟩ := h i hi
  exact ⟨v, L, fun u gu => h1 u (g.trans gu), h2.grow g, h3⟩

set_option maxRecDepth 16000 in
set_option maxHeartbeats 8000000 in
theorem planRow_walk (a : Option Addr) (n c : Nat) (z : List Int) (p old : Int) (W : World) (hT : Tab W) (hz : Rd .i64 W.heap.size W (.slice a n c) z) :
    Calls Tryd.prog 5 #[.slice a n c, .int .i64 p, .int .i64 old] W fun e w' => e = .returned (.bool true) ∧ Grow W w' := by
  obtain ⟨hr, hK6, hs⟩ := first_few hz 6 6 rfl
  generalize z.take 6 = K at hr hK6 hs
  have HOK := hid (And.intro (flL_ok K hK6) (And.intro (feL_ok p true old) (feL_ok p false old)))
  have k1 := hid (fun (u : World) (g : Grow W u) => flush_any a c K u (grow_rd hr g (Nat.le_refl _)) g.size (by omega))
  have k2 := hid (fun u : World => fetch_any p true old u)
  have k3 := hid (fun u : World => fetch_any p false old u)
  have k4 := hid (fun (u : World) (g : Grow W u) => lives_any u (hT.grow g))
  clear hz hr hK6 hT
  generalize K.length = q at hs k1
  go_enter Tryd.func5, Tryd.ntmps5
  go_wp2_with fail
  clear hs
  refine (k1.out W (Grow.refl _)).mono ?_
  rintro e w1 ⟨v1, rfl, o1, g1⟩
  obtain ⟨a1, c1, e1⟩ := OwnS.shape o1
  revert e1
  generalize List.length _ = n1
  intro e1
  subst e1
  have H1 := hid (And.intro o1 g1)
  clear o1 g1 k1
  go_wp2_with fail
  refine (k2.out w1).mono ?_
  rintro e w2 ⟨v2, rfl, o2, g2⟩
  obtain ⟨a2, c2, e2⟩ := OwnS.shape o2
  revert e2
  generalize List.length _ = n2
  intro e2
  subst e2
  have H2 := hid (And.intro (And.intro (H1.out.1.grow g2) o2) (H1.out.2.trans g2))
  clear o2 g2 k2 H1
  go_wp2_with fail
  refine (k3.out w2).mono ?_
  rintro e w3 ⟨v3, rfl, o3, g3⟩
  obtain ⟨a3, c3, e3⟩ := OwnS.shape o3
  revert e3
  generalize List.length _ = n3
  intro e3
  subst e3
  have HRW := hid (RowsAt.new w3 24 (.slice a1 n1 c1) (.slice a2 n2 c2) (.slice a3 n3 c3) _ _ _ ((H2.out.1.1.grow g3).rd.mono (fun _ _ _ => trivial)) ((H2.out.1.2.grow g3).rd.mono (fun _ _ _ => trivial)) (o3.rd.mono (fun _ _ _ => trivial)) HOK.out.1 HOK.out.2.1 HOK.out.2.2)
  have HG := hid ((H2.out.2.trans g3).alloc (.cells #[.slice a1 n1 c1, .slice a2 n2 c2, .slice a3 n3 c3] 24))
  have HB0 : Hid (w3.heap.size < (w3.alloc (.cells #[.slice a1 n1 c1, .slice a2 n2 c2, .slice a3 n3 c3] 24)).heap.size) := by show _ < _; rw [World.size_alloc]; omega
  clear o3 g3 k3 H2 HOK
  go_upto_region 2 with fail
  generalize w3.alloc (.cells #[.slice a1 n1 c1, .slice a2 n2 c2, .slice a3 n3 c3] 24) = w4 at HRW HG HB0 ⊢
  generalize w3.heap.size = bb at HRW HB0 ⊢
  go_wp2
  go_loopg [8] 3 (fun m iv wr => ∃ i : Nat, m = 3 - i ∧ i ≤ 3 ∧ iv = .int .i64 i ∧ Hid (Grow w4 wr))
  case atStart => exact ⟨0, rfl, Nat.zero_le _, rfl, Grow.refl _⟩
  case round =>
    obtain ⟨i, hk, hj, rfl, HX⟩ := hrel
    by_cases hlt : i < 3
    · have hlt' : (i : Int) < 3 := by omega
      have HI : Hid (i < 3 ∧ gk = 3 - i) := ⟨hlt, hk⟩
      have hw1 : IntKind.i64.wrap ((i : Int) + 1) = ((i + 1 : Nat) : Int) := by rw [IntKind.wrap_i64]; omega
      obtain ⟨v, L, hcv, hrd, hlen, m, hok⟩ := HRW.out i hlt
      obtain ⟨av, cv, ev⟩ := hrd.shape
      subst ev
      obtain ⟨nL, hnL⟩ : ∃ nL, nL = L.length := ⟨_, rfl⟩
      rw [← hnL] at hcv hlen
      have HC := hid hcv
      have HR := hid (And.intro hrd hok)
      have HN := hid (And.intro hnL hlen)
      have HW := hid HX.out
      obtain ⟨W9, rfl⟩ : ∃ W9, W9 = wr := ⟨_, rfl⟩
      clear hk hj hlt hcv hrd hok hnL hlen
      go_wp2
      go_loopg [9, 10] nL (fun mm sv iv wx => ∃ j : Nat, mm = nL - j ∧ j ≤ nL ∧ sv = .bool (decide (j ≤ m)) ∧ iv = .int .i64 j ∧ Hid (Grow W9 wx))
      case atStart => exact ⟨0, rfl, Nat.zero_le _, by simp, rfl, Grow.refl _⟩
      case round =>
        obtain ⟨j, hk, hj, rfl, rfl, HY⟩ := hrel
        have c0 := HC.out wr (HW.out.trans HY.out)
        have hbb : bb < wr.heap.size := by have := HB0.out; have := (HW.out.trans HY.out).size; omega
        have hlen := HN.out.2
        by_cases hlt2 : j < nL
        · have hlt3 : (j : Int) < (nL : Int) := by omega
          have HJ2 : Hid (j < nL ∧ gk = nL - j) := ⟨hlt2, hk⟩
          have hw2 : IntKind.i64.wrap ((j : Int) + 1) = ((j + 1 : Nat) : Int) := by rw [IntKind.wrap_i64]; omega
          obtain ⟨x, hx⟩ : ∃ x, L.getD j Sp.zero = x := ⟨_, rfl⟩
          have hst := HR.out.2 j (by rw [← HN.out.1]; exact hlt2)
          rw [hx] at hst
          obtain ⟨bx, ox, e1, hc⟩ := rdSp_at HR.out.1 (by rw [← HN.out.1]; exact hlt2) x hx
          subst e1
          obtain ⟨xo, xp, xk⟩ := x
          obtain ⟨y0, y1, y2⟩ := hc wr (HW.out.trans HY.out)
          simp only at y0 y1 y2
          obtain ⟨r, hr⟩ : ∃ r, r = j % 2 := ⟨_, rfl⟩
          have hr1 : (j : Int).tmod 2 = (r : Int) := by rw [Int.tmod_eq_emod_of_nonneg (by omega)]; omega
          unfold StepOk at hst
          rw [← hr] at hst
          simp only at hst
          have hbx : bx < wr.heap.size := World.block_lt_of_cell? _ _ y0
          have HY2 := hid (HY.out.alloc (.cells #[.int .i64 xo, .int .i64 xp, .int .i64 xk] 39))
          clear hk hj hx hc hr
          rcases hst with ⟨hm, ho, hk⟩ | ⟨hm, ho, hk⟩ | ⟨hm, ho, hp, hk, hl⟩
          · subst ho hk
            have hd : decide (j ≤ m) = true := by simp; omega
            have HD : Hid (decide (j + 1 ≤ m) = true) := by show _ = _; simp; omega
            rw [hd]
            clear hd
            clear hm
            clear hlen hlt2
            go_wp2
            go_roundg (nL - (j + 1))
            case measure => have := HJ2.out; omega
            case rel => exact ⟨j + 1, rfl, HJ2.out.1, by rw [HD.out], by first | rfl | go_num, HY2.out⟩
          · subst ho hk
            have HD : Hid (decide (j + 1 ≤ m) = false) := by show _ = _; simp; omega
            generalize decide (j ≤ m) = bl
            clear hm hlen hlt2
            cases bl
            · go_wp2
              go_roundg (nL - (j + 1))
              case measure => have := HJ2.out; omega
              case rel => exact ⟨j + 1, rfl, HJ2.out.1, by rw [HD.out], by first | rfl | go_num, HY2.out⟩
            · go_wp2
              go_roundg (nL - (j + 1))
              case measure => have := HJ2.out; omega
              case rel => exact ⟨j + 1, rfl, HJ2.out.1, by rw [HD.out], by first | rfl | go_num, HY2.out⟩
          · subst ho hp hk
            have HD : Hid (decide (j + 1 ≤ m) = false) := by show _ = _; simp; omega
            have hwl : IntKind.i64.wrap ((nL : Int) - 1) = (j : Int) := by rw [IntKind.wrap_i64]; have := HN.out.1; omega
            clear hl
            generalize decide (j ≤ m) = bl
            clear hm hlen hlt2
            cases bl
            · go_wp2
              go_roundg (nL - (j + 1))
              case measure => have := HJ2.out; omega
              case rel => exact ⟨j + 1, rfl, HJ2.out.1, by rw [HD.out], by first | rfl | go_num, HY2.out⟩
            · go_wp2
              go_roundg (nL - (j + 1))
              case measure => have := HJ2.out; omega
              case rel => exact ⟨j + 1, rfl, HJ2.out.1, by rw [HD.out], by first | rfl | go_num, HY2.out⟩
        · have hlt3 : ¬ (j : Int) < (nL : Int) := by omega
          have HF := hid (HW.out.trans HY.out)
          clear hk hj hlt2 hlen
          go_wp2
          go_roundg (3 - (i + 1))
          case measure => have := HI.out; omega
          case rel => exact ⟨i + 1, rfl, HI.out.1, by first | rfl | go_num, HF.out⟩
    · have hlt' : ¬ (i : Int) < 3 := by omega
      clear hk hj hlt
      go_wp2_with fail
      refine (k4.out wr (HG.out.trans HX.out)).mono ?_
      rintro e w5 ⟨rfl, g5⟩
      have HF := hid ((HG.out.trans HX.out).trans g5)
      clear g5
      go_wp2
      go_ret
      exact ⟨rfl, HF.out⟩
end Go.Proofs.YtpmmlocigaehnaaDoor
