/-
  The walks of Clone, of both Frees, and of Same where both are the same. Conditions: each theorem's own.
-/
import Derived.Test.YtabhbeknpchpkaaClkAs
import Derived.Deep.LoopGhost
namespace Go.Proofs.Ytabhbeknpchpkaa
open Go.RowKit
set_option linter.unusedVariables false
set_option linter.unusedSimpArgs false


set_option maxHeartbeats 1000000 in
theorem clone_any {p : Nat → Prop} (b o n c : Nat) (zs : List Fl) (w : World) (h : RdF p w (.slice (some ⟨b, o, none⟩) n c) zs) (hb : zs.length ≤ 1000000) :
    Calls Try.prog 24 #[.slice (some ⟨b, o, none⟩) n c] w fun e w' => ∃ v', e = .returned v' ∧ OwnF (fun i => w.heap.size ≤ i) w' v' zs ∧ Grow w w' := by
  obtain ⟨i0, hi, hz0, hz1, hz2⟩ := info_parts infoF
  have hsrc : ∀ o', Src Try.prog 4 22 (.slice (some ⟨b, o, none⟩) n c) zs.length (zs.flatMap Fl.cs) (w.alloc o') := fun o' => (RdS.grow h ((Grow.refl w).alloc o')).src Fl.cs_length Fl.cs_one Try.underlying22
  have hq := fun w => Lib.run_eql_slice_nil (P := Try.prog) w 22 40 (some ⟨b, o, none⟩) n c 0 0 Try.underlying22
  simp only [Option.isNone_some] at hq
  clear h
  go_enter Try.func24, Try.ntmps24
  go_wp2_with (at_builtin; refine wpList_appS (f := Fl.cs) (k := 4) (p := fun i => i = w.heap.size) rfl (.tmp 5) (.tmp 6) 22 22 rfl Fl.cs_length (by omega) i0 (.agg #[.bool false, .bool false, .bool false, .int .i64 0]) 16 Try.underlying22 hi hz0 hz1 hz2 rfl rfl rfl (OwnS.nil _ _ _ _ _) (hsrc _) (by simp only [maxLen, List.length_nil]; omega) (by simp only [List.length_nil]; omega) ?_)
  intro v1 w1 ho1 hu1
  have HO : Hid (OwnF (fun i => w.heap.size ≤ i) w1 v1 zs ∧ Grow w w1) := ⟨OwnS.mono ho1 (fun i _ hi => by omega), UpdS.new ((Grow.refl w).alloc _) hu1 (fun i hi => by omega)⟩
  clear ho1 hu1 hsrc hq
  go_wp2
  go_ret
  exact ⟨_, rfl, HO.out.1, HO.out.2⟩

theorem freeN_take {l : List Fl} {j : Nat} (hj : j < l.length) : freeN (l.take (j + 1)) = freeN (l.take j) + (if (l.getD j Fl.zero).may then 1 else 0) := by
  rw [take_next hj]
  unfold freeN
  rw [List.filter_append, List.length_append]
  congr 1
  generalize l.getD j Fl.zero = x
  cases hm : x.may <;> simp [List.filter_cons, hm]
theorem freeN_le (l : List Fl) : freeN l ≤ l.length := List.length_filter_le _ _

set_option maxHeartbeats 1000000 in
theorem rfree_any {p : Nat → Prop} (v : Value) (zs : List Fl) (w : World) (h : RdF p w v zs) (hb : zs.length ≤ 1000000) (hp : ∀ x ∈ zs, 0 ≤ x.p) :
    Calls Try.prog 18 #[v] w fun e w' => e = .returned (.int .i64 (freeN zs)) ∧ Grow w w' := by
  have HR : Hid (RdF p w v zs ∧ ∀ x ∈ zs, 0 ≤ x.p) := ⟨h, hp⟩
  obtain ⟨a, cp, rfl, h1, h2, -⟩ := h
  unfold maxLen at h2
  clear hp
  go_enter Try.func18, Try.ntmps18
  go_wp2
  go_loopg [3, 4] zs.length (fun m nv iv wr => ∃ j : Nat, m = zs.length - j ∧ j ≤ zs.length ∧ iv = .int .i64 j ∧ nv = .int .i64 (freeN (zs.take j)) ∧ Hid (Grow w wr))
  case atStart => exact ⟨0, by omega, by omega, rfl, rfl, Grow.refl _⟩
  case round =>
    obtain ⟨j, hk, hj, rfl, rfl, HG⟩ := hrel
    by_cases hlt : j < zs.length
    · have hle : (j : Int) < (zs.length : Int) := by omega
      have HL : Hid (j < zs.length ∧ gk = zs.length - j) := ⟨hlt, hk⟩
      have hw1 : IntKind.i64.wrap ((j : Int) + 1) = ((j + 1 : Nat) : Int) := by rw [IntKind.wrap_i64]; omega
      obtain ⟨bb, oo, rfl, _, _, hin⟩ := rdF_at HR.out.1 hlt
      have HS : Hid (freeN (zs.take (j + 1)) = freeN (zs.take j) + (if (zs.getD j Fl.zero).may then 1 else 0)) := freeN_take hlt
      have hpx : 0 ≤ (zs.getD j Fl.zero).p := HR.out.2 _ (by rw [getD_is hlt]; exact List.getElem_mem hlt)
      have hin' := hin.grow HG.out
      have hfl : freeN (zs.take j) ≤ 1000000 := Nat.le_trans (freeN_le _) (by rw [take_len hj]; omega)
      clear hin hk hj hlt
      generalize zs.getD j Fl.zero = x at hin' HS hpx
      generalize freeN (zs.take j) = N at HS hfl
      have hw2 : IntKind.i64.wrap ((N : Int) + 1) = ((N + 1 : Nat) : Int) := by rw [IntKind.wrap_i64]; omega
      have hg := fun w' => goes_any x w' hpx
      clear hpx
      obtain ⟨k0, k1, k2, k3⟩ := hin'
      cases hm : x.may with
      | false =>
        rw [hm] at hg HS
        clear hm
        go_wp2_with fail
        refine (hg wr).mono ?_
        rintro e w1 ⟨rfl, g1⟩
        have HG1 : Hid (Grow w w1) := HG.out.trans g1
        clear g1 hg
        go_wp2
        go_roundg (zs.length - (j + 1))
        case measure => have := HL.out; omega
        case rel => exact ⟨j + 1, rfl, HL.out.1, rfl, by rw [HS.out]; rfl, HG1⟩
      | true =>
        rw [hm] at hg HS
        clear hm
        go_wp2_with fail
        refine (hg wr).mono ?_
        rintro e w1 ⟨rfl, g1⟩
        have HG1 : Hid (Grow w w1) := HG.out.trans g1
        clear g1 hg
        go_wp2
        go_roundg (zs.length - (j + 1))
        case measure => have := HL.out; omega
        case rel => exact ⟨j + 1, rfl, HL.out.1, rfl, by rw [HS.out]; rfl, HG1⟩
    · have hle : ¬ (j : Int) < (zs.length : Int) := by omega
      have HE : Hid (zs.take j = zs) := List.take_of_length_le (by omega)
      go_wp2
      go_ret
      exact ⟨ret_int (by rw [HE.out]), HG.out⟩

set_option maxHeartbeats 1000000 in
theorem free_any {p : Nat → Prop} (v : Value) (zs : List Fl) (w : World) (h : RdF p w v zs) (hb : zs.length ≤ 1000000) :
    Calls Try.prog 17 #[v] w fun e w' => e = .returned (.int .i64 (freeN zs)) ∧ Grow w w' := by
  have HR : Hid (RdF p w v zs) := h
  obtain ⟨a, cp, rfl, h1, h2, -⟩ := h
  unfold maxLen at h2
  go_enter Try.func17, Try.ntmps17
  go_wp2
  go_loopg [3, 8] zs.length (fun m nv iv wr => ∃ j : Nat, m = zs.length - j ∧ j ≤ zs.length ∧ iv = .int .i64 j ∧ nv = .int .i64 (freeN (zs.take j)) ∧ Hid (Grow w wr))
  case atStart => exact ⟨0, by omega, by omega, rfl, rfl, Grow.refl _⟩
  case round =>
    obtain ⟨j, hk, hj, rfl, rfl, HG⟩ := hrel
    by_cases hlt : j < zs.length
    · have hle : (j : Int) < (zs.length : Int) := by omega
      have HL : Hid (j < zs.length ∧ gk = zs.length - j) := ⟨hlt, hk⟩
      have hw1 : IntKind.i64.wrap ((j : Int) + 1) = ((j + 1 : Nat) : Int) := by rw [IntKind.wrap_i64]; omega
      obtain ⟨bb, oo, rfl, _, _, hin⟩ := rdF_at HR.out hlt
      have HS0 : Hid (freeN (zs.take (j + 1)) = freeN (zs.take j) + (if (zs.getD j Fl.zero).may then 1 else 0)) := freeN_take hlt
      have hin' := hin.grow HG.out
      have hfl : freeN (zs.take j) ≤ 1000000 := Nat.le_trans (freeN_le _) (by rw [take_len hj]; omega)
      clear hin hk hj hlt
      generalize zs.getD j Fl.zero = x at hin' HS0
      generalize freeN (zs.take j) = N at HS0 hfl
      have hw2 : IntKind.i64.wrap ((N : Int) + 1) = ((N + 1 : Nat) : Int) := by rw [IntKind.wrap_i64]; omega
      obtain ⟨k0, k1, k2, k3⟩ := hin'
      have HG1 : Hid (Grow w (wr.alloc (.cells #[.bool x.u, .bool x.d, .bool x.r, .int .i64 x.p] 40))) := HG.out.alloc _
      have hv := VarAt.new wr x.cs 40
      have hf := ffree_any wr.heap.size 0 x (wr.alloc (.cells #[.bool x.u, .bool x.d, .bool x.r, .int .i64 x.p] 40)) ⟨(hv.2 0 (by show 0 < 4; omega)).1, (hv.2 1 (by show 1 < 4; omega)).1, (hv.2 2 (by show 2 < 4; omega)).1, (hv.2 3 (by show 3 < 4; omega)).1⟩
      clear hv
      obtain ⟨u, d, r, q⟩ := x
      simp only [] at k0 k1 k2 k3 hf
      cases u
      · have HS : Hid (freeN (zs.take (j + 1)) = N + 1) := HS0.out
        clear HS0
        go_wp2
        go_roundg (zs.length - (j + 1))
        case measure => have := HL.out; omega
        case rel => exact ⟨j + 1, rfl, HL.out.1, rfl, by rw [HS.out]; rfl, HG1⟩
      · by_cases hq : q ≤ 0
        · have HS : Hid (freeN (zs.take (j + 1)) = N + 1) := by
            have := HS0.out
            simp only [Fl.may, hq, decide_true, Bool.not_true, Bool.false_or, if_true] at this
            exact this
          have hd : decide (q ≤ 0) = true := by simp [hq]
          rw [hd] at hf
          clear HS0 hq hd
          go_wp2_with fail
          refine hf.mono ?_
          rintro e w1 ⟨rfl, rfl⟩
          clear hf
          go_wp2
          go_roundg (zs.length - (j + 1))
          case measure => have := HL.out; omega
          case rel => exact ⟨j + 1, rfl, HL.out.1, rfl, by rw [HS.out]; rfl, HG1⟩
        · have HS : Hid (freeN (zs.take (j + 1)) = N) := by
            have := HS0.out
            simp only [Fl.may, hq, decide_false, Bool.not_true, Bool.false_or, Bool.false_eq_true, if_false] at this
            exact this
          have hd : decide (q ≤ 0) = false := by simp; omega
          rw [hd] at hf
          clear HS0 hq hd
          go_wp2_with fail
          refine hf.mono ?_
          rintro e w1 ⟨rfl, rfl⟩
          clear hf
          go_wp2
          go_roundg (zs.length - (j + 1))
          case measure => have := HL.out; omega
          case rel => exact ⟨j + 1, rfl, HL.out.1, rfl, by rw [HS.out], HG1⟩
    · have hle : ¬ (j : Int) < (zs.length : Int) := by omega
      have HE : Hid (zs.take j = zs) := List.take_of_length_le (by omega)
      go_wp2
      go_ret
      exact ⟨ret_int (by rw [HE.out]), HG.out⟩

set_option maxHeartbeats 1000000 in
theorem same_yes {p q : Nat → Prop} (v v2 : Value) (zs : List Fl) (w : World) (h : RdF p w v zs) (h' : RdF q w v2 zs) (hb : zs.length ≤ 1000000) :
    Calls Try.prog 15 #[v, v2] w fun e w' => e = .returned (.bool true) ∧ Grow w w' := by
  have HR : Hid (RdF p w v zs ∧ RdF q w v2 zs) := ⟨h, h'⟩
  obtain ⟨a, cp, rfl, h1, h2, -⟩ := h
  obtain ⟨a2, cp2, rfl, h12, h22, -⟩ := h'
  unfold maxLen at h2 h22
  go_enter Try.func15, Try.ntmps15
  go_wp2
  go_loopg [5] zs.length (fun m iv wr => ∃ j : Nat, m = zs.length - j ∧ j ≤ zs.length ∧ iv = .int .i64 j ∧ Hid (Grow w wr))
  case atStart => exact ⟨0, by omega, by omega, rfl, Grow.refl _⟩
  case round =>
    obtain ⟨j, hk, hj, rfl, HG⟩ := hrel
    by_cases hlt : j < zs.length
    · have hle : (j : Int) < (zs.length : Int) := by omega
      have HL : Hid (j < zs.length ∧ gk = zs.length - j) := ⟨hlt, hk⟩
      have hw1 : IntKind.i64.wrap ((j : Int) + 1) = ((j + 1 : Nat) : Int) := by rw [IntKind.wrap_i64]; omega
      obtain ⟨bb, oo, rfl, _, _, hin⟩ := rdF_at HR.out.1 hlt
      obtain ⟨bb2, oo2, rfl, _, _, hin2⟩ := rdF_at HR.out.2 hlt
      have hin' := hin.grow HG.out
      have hin2' := hin2.grow HG.out
      clear hin hin2 hk hj hlt
      generalize zs.getD j Fl.zero = x at hin' hin2'
      have kx : ∀ w', Grow wr.drew w' → FIn w' bb (oo + j * 4) x ∧ FIn w' bb2 (oo2 + j * 4) x := fun w' hu => ⟨hin'.grow ((Grow.refl wr).drew.trans hu), hin2'.grow ((Grow.refl wr).drew.trans hu)⟩
      clear hin' hin2'
      obtain ⟨u, d, r, q⟩ := x
      simp only [FIn] at kx
      go_wp2
      refine wp_region_sched (by kernel_rfl) [(0, false), (1, false), (2, false), (3, false), (4, false), (5, false), (6, false), (7, false), (8, false)] (by kernel_rfl) (by kernel_rfl) rfl (fun _ _ d _ _ h => by cases d <;> exact h) ?_
      simp only [inOrder, List.filterMap_cons, List.filterMap_nil, List.getElem?_toArray, List.getElem?_cons_zero, List.getElem?_cons_succ, Option.map_some]
      repeat (first
        | (refine wpS_move rfl ?_; simp only [Act.eval, Act.put, Array.getD_eq_getD_getElem?, List.getElem?_toArray, List.getElem?_cons_zero, List.getElem?_cons_succ, Option.getD_some, List.setIfInBounds_toArray, List.set_cons_zero, List.set_cons_succ])
        | (refine wpS_assign rfl ?_; simp only [Act.eval, Act.put, Array.getD_eq_getD_getElem?, List.getElem?_toArray, List.getElem?_cons_zero, List.getElem?_cons_succ, Option.getD_some, List.setIfInBounds_toArray, List.set_cons_zero, List.set_cons_succ])
        | (refine wpS_read (v := ?_) rfl ?_ ?_; rotate_left; (focus (intro w' hG; obtain ⟨⟨k0, k1, k2, k3⟩, m0, m1, m2, m3⟩ := kx w' hG; go_simp; try (with_reducible rfl))); simp only [Act.put, List.setIfInBounds_toArray, List.set_cons_zero, List.set_cons_succ])
        | (refine wpS_skip rfl ?_; simp only [Act.put, List.setIfInBounds_toArray, List.set_cons_zero, List.set_cons_succ]))
      refine wpS_nil ?_
      clear kx
      have HG1 : Hid (Grow w wr.drew) := HG.out.drew
      go_wp2
      go_roundg (zs.length - (j + 1))
      case measure => have := HL.out; omega
      case rel => exact ⟨j + 1, rfl, HL.out.1, rfl, HG1⟩
    · have hle : ¬ (j : Int) < (zs.length : Int) := by omega
      go_wp2
      go_ret
      exact ⟨rfl, HG.out⟩
end Go.Proofs.Ytabhbeknpchpkaa
