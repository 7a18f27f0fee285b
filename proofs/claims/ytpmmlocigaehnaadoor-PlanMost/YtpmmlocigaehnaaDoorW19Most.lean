/-
  The walk of the law of how many steps there are at most. Conditions: each theorem's own.
-/
import Derived.Test.YtpmmlocigaehnaaDoorW19Parts
namespace Go.Proofs.YtpmmlocigaehnaaDoor
open Go.RowKit
set_option linter.unusedVariables false
set_option linter.unusedSimpArgs false

/-- the numbers from 0 on -/
def nums (j : Nat) : List Int := (List.range j).map (fun i : Nat => (i : Int))
theorem nums_len (j : Nat) : (nums j).length = j := by simp [nums]
theorem nums_snoc (j : Nat) : nums (j + 1) = nums j ++ [(j : Int)] := by unfold nums; rw [List.range_succ, List.map_append]; rfl
theorem infoInt : (Tryd.prog.info? 3).map (fun i => (i.zero, i.size, i.bytes)) = some (some (.int .i64 0), 1, 8) := by kernel_rfl

theorem flush_anyV {B : Nat} (v : Value) (l : List Int) (w : World) (h : Rd .i64 B w v l) (hB : B ≤ w.heap.size) (hl : l.length ≤ 100) :
    Calls Tryd.prog 14 #[v] w fun e w' => ∃ a c, e = .returned (.slice a (2 * l.length + 1) c) ∧ Grow w w' := by
  obtain ⟨a, c, e, -⟩ := id h
  subst e
  refine (flush_any a c l w h hB hl).mono fun e w' ⟨v', h1, h2, h3⟩ => ?_
  obtain ⟨a', c', e'⟩ := h2.shape
  rw [flL_len] at e'
  exact ⟨a', c', by rw [h1, e'], h3⟩
theorem fetch_anyN (p old : Int) (w : World) : Calls Tryd.prog 12 #[.int .i64 p, .bool true, .int .i64 old] w fun e w' => ∃ a c, e = .returned (.slice a 4 c) ∧ Grow w w' :=
  (fetch_any p true old w).mono fun e w' ⟨v', h1, h2, h3⟩ => by
    obtain ⟨a', c', e'⟩ := h2.shape
    have : (feL p true old).length = 4 := rfl
    rw [this] at e'
    exact ⟨a', c', by rw [h1, e'], h3⟩

set_option maxHeartbeats 8000000 in
theorem planMost_walk (qq nn : Int) (W : World) (hT : Tab W) (wq : (Lit.int .i64 qq).wf = true) (wn : (Lit.int .i64 nn).wf = true) :
    Calls Tryd.prog 4 #[.int .i64 qq, .int .i64 nn] W fun e w' => e = .returned (.bool true) ∧ Grow W w' := by
  obtain ⟨i0, hi, hz0, hz1, hz2⟩ := info_parts infoInt
  have ka := fun u : World => around_any qq 64 u wq (by omega) (by omega)
  have hbq := around_bd qq 64 (by omega)
  obtain ⟨q0, hq0⟩ : ∃ q0 : Nat, around qq 64 = (q0 : Int) := ⟨(around qq 64).toNat, by omega⟩
  rw [hq0] at ka hbq
  obtain ⟨q, hq⟩ : ∃ q, q = q0 + 1 := ⟨_, rfl⟩
  have hq64 : q ≤ 64 := by omega
  have hq1 : 1 ≤ q := by omega
  have hwq : IntKind.i64.wrap (1 + (q0 : Int)) = (q : Int) := by rw [IntKind.wrap_i64]; omega
  have hwq1 : IntKind.i64.wrap ((q : Int) + 1) = (q : Int) + 1 := by rw [IntKind.wrap_i64]; omega
  have kb := fun u : World => around_any nn ((q : Int) + 1) u wn (by omega) (by omega)
  have hbn := around_bd nn ((q : Int) + 1) (by omega)
  obtain ⟨k, hk⟩ : ∃ k : Nat, around nn ((q : Int) + 1) = (k : Int) := ⟨(around nn ((q : Int) + 1)).toNat, by omega⟩
  rw [hk] at kb hbn
  have hkq : k ≤ q := by omega
  have km := fun u : World => most_any (q : Int) u (by omega) (by omega)
  have hmax : max (4 : Int) (2 * (q : Int) + 1) = mostI q := by unfold mostI; split <;> omega
  have hw2 : IntKind.i64.wrap (2 * (q : Int)) = 2 * (q : Int) := by rw [IntKind.wrap_i64]; omega
  have hw3 : IntKind.i64.wrap (2 * (q : Int) + 1) = 2 * (q : Int) + 1 := by rw [IntKind.wrap_i64]; omega
  have kl := hid (fun (u : World) (g : Grow W u) => lives_any u (hT.grow g))
  have HM : Hid ((2 * (k : Int) + 1 ≤ mostI q ∧ (4 : Int) ≤ mostI q) ∧ ((2 * (q : Int) + 1 = mostI q) ∨ (¬ 2 * (q : Int) + 1 = mostI q ∧ (4 : Int) = mostI q))) := by
    show (_ ∧ _) ∧ _
    unfold mostI
    split <;> omega
  have HQ := hid (And.intro hq64 hkq)
  generalize mostI q = M at km hmax HM
  clear hT wq wn hbq hq0 hq hq64 hq1 hbn hk hkq
  go_enter Tryd.func4, Tryd.ntmps4
  go_wp2_with fail
  refine (ka W).mono ?_
  rintro e w1 ⟨rfl, rfl⟩
  clear ka
  go_wp2_with fail
  refine (kb W).mono ?_
  rintro e w1 ⟨rfl, rfl⟩
  clear kb hwq hwq1
  go_wp2
  go_loopg [7, 8] q (fun m lv iv wr => ∃ j : Nat, m = q - j ∧ j ≤ q ∧ iv = .int .i64 j ∧ Hid (Own .i64 W.heap.size wr lv (nums j) ∧ Grow W wr))
  case atStart => exact ⟨0, rfl, Nat.zero_le _, rfl, Own.nil _ _ _ _, Grow.refl _⟩
  case round =>
    obtain ⟨j, hk, hj, rfl, HX⟩ := hrel
    by_cases hlt : j < q
    · have hlt' : (j : Int) < (q : Int) := by omega
      have HJ : Hid (j < q ∧ gk = q - j) := ⟨hlt, hk⟩
      have hjn : j ≤ 64 := by have := HQ.out.1; omega
      have hw1 : IntKind.i64.wrap ((j : Int) + 1) = ((j + 1 : Nat) : Int) := by rw [IntKind.wrap_i64]; omega
      have hlen : (nums j).length ≤ 64 := by rw [nums_len]; omega
      have ho := HX.out.1.alloc (.cells #[.int .i64 (j : Int)] 3)
      have hs1 : (wr.alloc (.cells #[.int .i64 (j : Int)] 3)).heap.size = wr.heap.size + 1 := World.size_alloc _ _
      have hsz := HX.out.2.size
      clear hk hj hlt
      go_wp2_with (at_builtin; refine wpList_app rfl (.tmp 22) (.tmp 24) 22 22 rfl i0 (.int .i64 0) 8 Tryd.underlying22 hi hz0 hz1 hz2 rfl rfl rfl ho (Src.one (w := wr) Tryd.underlying22 .i64 (j : Int) 3) (by simp only [maxLen, List.length_singleton]; omega) (by simp only [List.length_singleton]; omega) (by omega) ?_)
      intro v' w' ho' hb'
      have HF : Hid (Own .i64 W.heap.size w' v' (nums (j + 1)) ∧ Grow W w') := ⟨by rw [nums_snoc]; exact ho', Below.trans (HX.out.2.alloc _) hb'⟩
      clear ho' hb' hsz hs1 ho hlen HX hjn
      go_wp2
      go_roundg (q - (j + 1))
      case measure => have := HJ.out; omega
      case rel => exact ⟨j + 1, rfl, HJ.out.1, by first | rfl | go_num, HF⟩
    · have hlt' : ¬ (j : Int) < (q : Int) := by omega
      have hjq : j = q := by omega
      have hrd := HX.out.1.rd
      rw [hjq] at hrd
      have hkn := HQ.out.2
      have hq64 := HQ.out.1
      obtain ⟨a, c, e, -⟩ := id hrd
      rw [nums_len] at e
      subst e
      have hs := slice_toI hrd k (by rw [nums_len]; exact hkn) (k : Int) rfl
      have htk := hrd.take k (by rw [nums_len]; exact hkn)
      have htl : ((nums q).take k).length = k := by rw [List.length_take, nums_len]; omega
      have k1 := hid (fun (u : World) (g : Grow wr u) => flush_anyV (.slice a k c) ((nums q).take k) u (grow_rd htk g (Nat.le_refl _)) g.size (by rw [htl]; omega))
      have k2 := hid (fun (u : World) (g : Grow wr u) => flush_anyV (.slice a q c) (nums q) u (grow_rd hrd g (Nat.le_refl _)) g.size (by rw [nums_len]; omega))
      have k3 := hid (fun (u : World) => fetch_anyN 1 2 u)
      rw [htl] at k1
      rw [nums_len] at k2
      obtain ⟨fk, hfk⟩ : ∃ fk, fk = 2 * k + 1 := ⟨_, rfl⟩
      obtain ⟨fq, hfq⟩ : ∃ fq, fq = 2 * q + 1 := ⟨_, rfl⟩
      rw [← hfk] at k1
      rw [← hfq] at k2
      have hm1 : (fk : Int) ≤ M := by have := HM.out.1.1; omega
      have hm2 : (4 : Int) ≤ M := HM.out.1.2
      have HG := hid HX.out.2
      clear hk hj hlt hjq hrd hkn hq64 htk htl hfk HX
      go_wp2_with fail
      refine (km wr).mono ?_
      rintro e w1 ⟨rfl, rfl⟩
      clear km
      go_wp2_with fail
      clear hs
      refine (k1.out wr (Grow.refl _)).mono ?_
      rintro e w2 ⟨a1, c1, rfl, g2⟩
      have HG2 := hid g2
      clear g2
      go_wp2_with fail
      refine (k3.out w2).mono ?_
      rintro e w3 ⟨a3, c3, rfl, g3⟩
      have HG3 := hid (HG2.out.trans g3)
      clear g3 HG2
      go_wp2_with fail
      refine (k2.out w3 HG3.out).mono ?_
      rintro e w4 ⟨a4, c4, rfl, g4⟩
      have HG4 := hid (HG.out.trans (HG3.out.trans g4))
      clear g4 HG3 hmax hw2 hw3 hm1 hm2
      rcases HM.out.2 with hA | ⟨hA, hB⟩
      · have hA' : (fq : Int) = M := by omega
        have hE := eqI hA'
        clear hA hA' hfq
        go_wp2_with fail
        refine (kl.out w4 HG4.out).mono ?_
        rintro e w5 ⟨rfl, g5⟩
        have HF := hid (HG4.out.trans g5)
        clear g5
        go_wp2
        go_ret
        exact ⟨rfl, HF.out⟩
      · have hE := neqI (show ¬ (fq : Int) = M by omega)
        have hE2 := eqI hB
        clear hA hB hfq
        go_wp2_with fail
        refine (k3.out w4).mono ?_
        rintro e w5 ⟨a5, c5, rfl, g5⟩
        have HG5 := hid (HG4.out.trans g5)
        clear g5 HG4
        go_wp2_with fail
        refine (kl.out w5 HG5.out).mono ?_
        rintro e w6 ⟨rfl, g6⟩
        have HF := hid (HG5.out.trans g6)
        clear g6
        go_wp2
        go_ret
        exact ⟨rfl, HF.out⟩
end Go.Proofs.YtpmmlocigaehnaaDoor
