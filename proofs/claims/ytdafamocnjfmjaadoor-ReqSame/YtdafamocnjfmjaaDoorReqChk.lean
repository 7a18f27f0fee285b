/-
  The walk of Check. Conditions: the theorem's own.
-/
import Derived.Test.YtdafamocnjfmjaaDoorReqNm
import Derived.Test.YtdafamocnjfmjaaDoorReqOpA
namespace Go.Proofs.YtdafamocnjfmjaaDoor
open Go.RowKit
set_option linter.unusedVariables false
set_option linter.unusedSimpArgs false

theorem index9 (p : Nat → Prop) (w : World) (b1 b2 b3 b4 b5 b6 b7 b8 : Nat) (h : NamesAt p w b1 (nsOf 1) ∧ NamesAt p w b2 (nsOf 2) ∧ NamesAt p w b3 (nsOf 3) ∧ NamesAt p w b4 (nsOf 4) ∧ NamesAt p w b5 (nsOf 5) ∧ NamesAt p w b6 (nsOf 6) ∧ NamesAt p w b7 (nsOf 7) ∧ NamesAt p w b8 (nsOf 8)) (k : Nat) (h0 : 1 ≤ k) (hk : k ≤ 8) :
    ∃ b, (∀ u, (Instr.index 52 (.agg #[.nilFunc, clo b1, clo b2, clo b3, clo b4, clo b5, clo b6, clo b7, clo b8]) (.int .i64 k)).run Tryd.prog u = .ok (.func (.func 51) #[] #[.pointer (some ⟨b, 0, none⟩)]) u) ∧ NamesAt p w b (nsOf k) := by
  obtain ⟨h1, h2, h3, h4, h5, h6, h7, h8⟩ := h
  rcases (show k = 1 ∨ k = 2 ∨ k = 3 ∨ k = 4 ∨ k = 5 ∨ k = 6 ∨ k = 7 ∨ k = 8 by omega) with rfl | rfl | rfl | rfl | rfl | rfl | rfl | rfl
  · exact ⟨b1, fun u => by kernel_rfl, h1⟩
  · exact ⟨b2, fun u => by kernel_rfl, h2⟩
  · exact ⟨b3, fun u => by kernel_rfl, h3⟩
  · exact ⟨b4, fun u => by kernel_rfl, h4⟩
  · exact ⟨b5, fun u => by kernel_rfl, h5⟩
  · exact ⟨b6, fun u => by kernel_rfl, h6⟩
  · exact ⟨b7, fun u => by kernel_rfl, h7⟩
  · exact ⟨b8, fun u => by kernel_rfl, h8⟩

theorem sz_wrap {k : Nat} (h0 : 1 ≤ k) (hk : k ≤ 8) {p f l : Int} {n : Nat} (hf : fmB (nsOf k) p f l n = true) (hl : (Lit.int .i64 l).wf = true) (hn : n ≤ 1000000) : IntKind.i64.wrap (l + (n : Int)) = l + (n : Int) := by
  have hb := bounds_i64 hl
  rw [IntKind.wrap_i64]
  rcases fm_size h0 hk hf with rfl | rfl <;> omega

theorem ck_form {k : Nat} (h0 : 1 ≤ k) (hk : k ≤ 8) {p f l : Int} {n : Nat} {pages : Int} (hf : fmB (nsOf k) p f l n = false) : ckE k p f l n pages = 2 := by
  rw [← ckP_eq k h0 hk]; exact if_pos hf
theorem ck_page {k : Nat} (h0 : 1 ≤ k) (hk : k ≤ 8) {p f l : Int} {n : Nat} {pages : Int} (hf : fmB (nsOf k) p f l n = true) (hm : (0 : Int) ∈ nsOf k) (hp : p < 0 ∨ pages ≤ p) : ckE k p f l n pages = 4 := by
  rw [← ckP_eq k h0 hk]; unfold ckP; rw [if_neg (by rw [hf]; simp), if_pos ⟨hm, hp⟩]
theorem ck_rest {k : Nat} (h0 : 1 ≤ k) (hk : k ≤ 8) {p f l : Int} {n : Nat} {pages : Int} (hf : fmB (nsOf k) p f l n = true) (hm : ¬ ((0 : Int) ∈ nsOf k ∧ (p < 0 ∨ pages ≤ p))) :
    (inB f (l + (n : Int)) = false → ckE k p f l n pages = 4) ∧ (inB f (l + (n : Int)) = true → ckE k p f l n pages = 0) := by
  rw [← ckP_eq k h0 hk]; unfold ckP; rw [if_neg (by rw [hf]; simp), if_neg hm]
  exact ⟨fun h => if_pos (of_decide_eq_false h), fun h => if_neg (fun h' => h' (of_decide_eq_true h))⟩

set_option maxRecDepth 8000 in
set_option maxHeartbeats 4000000 in
theorem check_any (w : World) (o p f l : Int) (a : Option Addr) (n c : Nat) (pages : Int) (hw : WT w) (hf : (Lit.int .i64 f).wf = true) (hl : (Lit.int .i64 l).wf = true) (hn : n ≤ 1000000) :
    Calls Tryd.prog 12 #[.agg #[.int .i64 o, .int .i64 p, .int .i64 f, .int .i64 l, .slice a n c], .int .i64 pages] w fun e w' => e = .returned (.int .i64 (ckE o p f l n pages)) ∧ Grow w w' := by
  have HV : Hid (VarAt (w.alloc (.cells #[.int .i64 o, .int .i64 p, .int .i64 f, .int .i64 l, .slice a n c] 24)) w.heap.size [.int .i64 o, .int .i64 p, .int .i64 f, .int .i64 l, .slice a n c] ∧ Grow w (w.alloc (.cells #[.int .i64 o, .int .i64 p, .int .i64 f, .int .i64 l, .slice a n c] 24))) := ⟨VarAt.new w _ _, (Grow.refl w).alloc _⟩
  have hnm := fun u hu => name_any o u hu
  have HW : Hid (WT (w.alloc (.cells #[.int .i64 o, .int .i64 p, .int .i64 f, .int .i64 l, .slice a n c] 24))) := hw.grow HV.out.2
  clear hw
  by_cases ho : 1 ≤ o ∧ o ≤ 8
  · obtain ⟨k, rfl⟩ := Int.eq_ofNat_of_zero_le (show 0 ≤ o by omega)
    have h0 : 1 ≤ k := by omega
    have hk : k ≤ 8 := by omega
    rw [nmI_yes h0 hk] at hnm
    have hs := nm_some h0 hk
    have hE := str_some hs
    have HK : Hid (1 ≤ k ∧ k ≤ 8) := ⟨h0, hk⟩
    generalize nm k = s at hnm hE
    clear ho h0 hk hs
    go_enter Tryd.func12, Tryd.ntmps12
    go_wp2_with fail
    refine (hnm _ HW.out).mono ?_
    rintro e w1 ⟨rfl, rfl⟩
    clear hnm HW
    go_wp2
    refine wp_region_sched (by kernel_rfl) [(1, false), (2, false), (0, true), (3, false), (4, false)] (by kernel_rfl) (by kernel_rfl) rfl (fun _ _ d _ _ h => by cases d <;> exact h) ?_
    simp only [inOrder, List.filterMap_cons, List.filterMap_nil, List.getElem?_toArray, List.getElem?_cons_zero, List.getElem?_cons_succ, Option.map_some]
    repeat (first
      | (refine wpS_move rfl ?_; simp only [Act.eval, Act.put, Array.getD_eq_getD_getElem?, List.getElem?_toArray, List.getElem?_cons_zero, List.getElem?_cons_succ, Option.getD_some, List.setIfInBounds_toArray, List.set_cons_zero, List.set_cons_succ])
      | (refine wpS_assign rfl ?_; simp only [Act.eval, Act.put, Array.getD_eq_getD_getElem?, List.getElem?_toArray, List.getElem?_cons_zero, List.getElem?_cons_succ, Option.getD_some, List.setIfInBounds_toArray, List.set_cons_zero, List.set_cons_succ])
      | (refine wpS_read (v := ?_) rfl ?_ ?_; rotate_left; (focus (intro w' hG; obtain ⟨c0, c1, c2, c3, c4⟩ := late5 HV.out.1 (by first | exact .inl hG | exact .inr hG); go_simp; try (with_reducible rfl))); simp only [Act.put, List.setIfInBounds_toArray, List.set_cons_zero, List.set_cons_succ])
      | (refine wpS_skip rfl ?_; simp only [Act.put, List.setIfInBounds_toArray, List.set_cons_zero, List.set_cons_succ]))
    refine wpS_call (f := ?_) (args := ?_) (by rfl) ?_ ?_
    rotate_left 2; focus (go_simp; constructor <;> with_reducible rfl)
    refine (operations_any _).mono ?_
    rintro e w2 ⟨b1, b2, b3, b4, b5, b6, b7, b8, rfl, hN, g2⟩
    obtain ⟨b, hix, hNb⟩ := index9 _ _ _ _ _ _ _ _ _ _ hN k HK.out.1 HK.out.2
    have HN : Hid (NamesAt (fun i => (w.alloc (.cells #[.int .i64 k, .int .i64 p, .int .i64 f, .int .i64 l, .slice a n c] 24)).drew.heap.size < i) w2 b (nsOf k)) := hNb
    have g20 : Grow (w.alloc (.cells #[.int .i64 k, .int .i64 p, .int .i64 f, .int .i64 l, .slice a n c] 24)) w2 := ((Grow.refl _).drew).trans g2
    have HG2 : Hid (VarAt w2 w.heap.size [.int .i64 k, .int .i64 p, .int .i64 f, .int .i64 l, .slice a n c] ∧ Grow w w2) := ⟨HV.out.1.grow g20, HV.out.2.trans g20⟩
    refine ⟨_, rfl, g2, ?_⟩
    simp only [Act.put, List.setIfInBounds_toArray, List.set_cons_zero, List.set_cons_succ]
    clear hN hNb g2 g20 HV
    repeat (first
      | (refine wpS_move rfl ?_; simp only [Act.eval, Act.put, Array.getD_eq_getD_getElem?, List.getElem?_toArray, List.getElem?_cons_zero, List.getElem?_cons_succ, Option.getD_some, List.setIfInBounds_toArray, List.set_cons_zero, List.set_cons_succ])
      | (refine wpS_assign rfl ?_; simp only [Act.eval, Act.put, Array.getD_eq_getD_getElem?, List.getElem?_toArray, List.getElem?_cons_zero, List.getElem?_cons_succ, Option.getD_some, List.setIfInBounds_toArray, List.set_cons_zero, List.set_cons_succ])
      | (refine wpS_read (v := ?_) rfl ?_ ?_; rotate_left; (focus (intro w' hG; go_simp; try (with_reducible rfl))); simp only [Act.put, List.setIfInBounds_toArray, List.set_cons_zero, List.set_cons_succ])
      | (refine wpS_skip rfl ?_; simp only [Act.put, List.setIfInBounds_toArray, List.set_cons_zero, List.set_cons_succ]))
    refine wpS_nil ?_
    clear hix
    generalize w2 = w3 at *
    obtain ⟨⟨c0, c1, c2, c3, c4⟩, -⟩ := HG2.out.1.five
    have hfm := formed_any w3 k p f l a n c _ b _ HN.out
    cases hfb : fmB (nsOf k) p f l n
    · rw [hfb] at hfm
      have HE : Hid (ckE k p f l n pages = 2) := ck_form HK.out.1 HK.out.2 hfb
      clear hfb
      go_wp2_with fail
      refine hfm.mono ?_
      rintro e w4 ⟨rfl, g4⟩
      clear hfm c0 c1 c2 c3 c4
      go_wp2
      go_ret
      exact ⟨ret_int HE.out.symm, HG2.out.2.trans g4⟩
    · rw [hfb] at hfm
      have HFB : Hid (fmB (nsOf k) p f l n = true) := hfb
      have hsz := sz_wrap HK.out.1 HK.out.2 hfb hl hn
      clear hfb
      go_wp2_with fail
      refine hfm.mono ?_
      rintro e w4 ⟨rfl, g4⟩
      clear hfm c0 c1 c2 c3 c4
      have HG4 : Hid (VarAt w4 w.heap.size [.int .i64 k, .int .i64 p, .int .i64 f, .int .i64 l, .slice a n c] ∧ Grow w w4) := ⟨HG2.out.1.grow g4, HG2.out.2.trans g4⟩
      have hna := named_any w4 _ b (nsOf k) 0 (HN.out.grow g4)
      obtain ⟨⟨c0, c1, c2, c3, c4⟩, -⟩ := HG4.out.1.five
      clear g4 HG2 HN
      by_cases hm : (0 : Int) ∈ nsOf k
      · rw [decide_eq_true hm] at hna
        by_cases hp0 : p < 0
        · have HE : Hid (ckE k p f l n pages = 4) := ck_page HK.out.1 HK.out.2 HFB.out hm (.inl hp0)
          clear hm
          go_wp2_with fail
          refine hna.mono ?_
          rintro e w5 ⟨rfl, rfl⟩
          clear hna
          go_wp2
          go_ret
          exact ⟨ret_int HE.out.symm, HG4.out.2⟩
        · by_cases hp1 : pages ≤ p
          · have HE : Hid (ckE k p f l n pages = 4) := ck_page HK.out.1 HK.out.2 HFB.out hm (.inr hp1)
            have hp0' : 0 ≤ p := by omega
            clear hm
            go_wp2_with fail
            refine hna.mono ?_
            rintro e w5 ⟨rfl, rfl⟩
            clear hna
            go_wp2
            go_ret
            exact ⟨ret_int HE.out.symm, HG4.out.2⟩
          · have HQ : Hid ((inB f (l + (n : Int)) = false → ckE k p f l n pages = 4) ∧ (inB f (l + (n : Int)) = true → ckE k p f l n pages = 0)) := ck_rest HK.out.1 HK.out.2 HFB.out (fun h => by omega)
            have hp0' : 0 ≤ p := by omega
            have hp1' : p < pages := by omega
            clear hm
            go_wp2_with fail
            refine hna.mono ?_
            rintro e w5 ⟨rfl, rfl⟩
            clear hna
            go_wp2
            clear c0 c1 c2 c3 c4
            refine wp_region_sched (by kernel_rfl) [(0, false), (1, false), (2, false), (3, true), (4, true), (5, false)] (by kernel_rfl) (by kernel_rfl) rfl (fun _ _ d _ _ h => by cases d <;> exact h) ?_
            simp only [inOrder, List.filterMap_cons, List.filterMap_nil, List.getElem?_toArray, List.getElem?_cons_zero, List.getElem?_cons_succ, Option.map_some]
            repeat (first
              | (refine wpS_move rfl ?_; simp only [Act.eval, Act.put, Array.getD_eq_getD_getElem?, List.getElem?_toArray, List.getElem?_cons_zero, List.getElem?_cons_succ, Option.getD_some, List.setIfInBounds_toArray, List.set_cons_zero, List.set_cons_succ])
              | (refine wpS_assign rfl ?_; simp only [Act.eval, Act.put, Array.getD_eq_getD_getElem?, List.getElem?_toArray, List.getElem?_cons_zero, List.getElem?_cons_succ, Option.getD_some, List.setIfInBounds_toArray, List.set_cons_zero, List.set_cons_succ])
              | (refine wpS_read (v := ?_) rfl ?_ ?_; rotate_left; (focus (intro w' hG; obtain ⟨c0, c1, c2, c3, c4⟩ := late5 HG4.out.1 (by first | exact .inl hG | exact .inr hG); go_simp; try (with_reducible rfl))); simp only [Act.put, List.setIfInBounds_toArray, List.set_cons_zero, List.set_cons_succ])
              | (refine wpS_skip rfl ?_; simp only [Act.put, List.setIfInBounds_toArray, List.set_cons_zero, List.set_cons_succ]))
            refine wpS_call (f := ?_) (args := ?_) (by rfl) ?_ ?_
            rotate_left 2; focus (go_simp; constructor <;> with_reducible rfl)
            refine (size_any _ _ p f l a n c hsz).mono ?_
            rintro e w8 ⟨rfl, g8⟩
            have HG8 : Hid (Grow w w8) := (HG4.out.2.trans (Grow.refl _).drew).trans g8
            refine ⟨_, rfl, g8, ?_⟩
            simp only [Act.put, List.setIfInBounds_toArray, List.set_cons_zero, List.set_cons_succ]
            repeat (first
              | (refine wpS_move rfl ?_; simp only [Act.eval, Act.put, Array.getD_eq_getD_getElem?, List.getElem?_toArray, List.getElem?_cons_zero, List.getElem?_cons_succ, Option.getD_some, List.setIfInBounds_toArray, List.set_cons_zero, List.set_cons_succ])
              | (refine wpS_assign rfl ?_; simp only [Act.eval, Act.put, Array.getD_eq_getD_getElem?, List.getElem?_toArray, List.getElem?_cons_zero, List.getElem?_cons_succ, Option.getD_some, List.setIfInBounds_toArray, List.set_cons_zero, List.set_cons_succ])
              | (refine wpS_read (v := ?_) rfl ?_ ?_; rotate_left; (focus (intro w' hG; go_simp; try (with_reducible rfl))); simp only [Act.put, List.setIfInBounds_toArray, List.set_cons_zero, List.set_cons_succ])
              | (refine wpS_skip rfl ?_; simp only [Act.put, List.setIfInBounds_toArray, List.set_cons_zero, List.set_cons_succ]))
            refine wpS_call (f := ?_) (args := ?_) (by rfl) ?_ ?_
            rotate_left 2; focus (go_simp; constructor <;> with_reducible rfl)
            refine (within_any _ f (l + (n : Int)) hf).mono ?_
            rintro e w9 ⟨rfl, rfl⟩
            refine ⟨_, rfl, Grow.refl _, ?_⟩
            simp only [Act.put, List.setIfInBounds_toArray, List.set_cons_zero, List.set_cons_succ]
            repeat (first
              | (refine wpS_move rfl ?_; simp only [Act.eval, Act.put, Array.getD_eq_getD_getElem?, List.getElem?_toArray, List.getElem?_cons_zero, List.getElem?_cons_succ, Option.getD_some, List.setIfInBounds_toArray, List.set_cons_zero, List.set_cons_succ])
              | (refine wpS_assign rfl ?_; simp only [Act.eval, Act.put, Array.getD_eq_getD_getElem?, List.getElem?_toArray, List.getElem?_cons_zero, List.getElem?_cons_succ, Option.getD_some, List.setIfInBounds_toArray, List.set_cons_zero, List.set_cons_succ])
              | (refine wpS_read (v := ?_) rfl ?_ ?_; rotate_left; (focus (intro w' hG; go_simp; try (with_reducible rfl))); simp only [Act.put, List.setIfInBounds_toArray, List.set_cons_zero, List.set_cons_succ])
              | (refine wpS_skip rfl ?_; simp only [Act.put, List.setIfInBounds_toArray, List.set_cons_zero, List.set_cons_succ]))
            refine wpS_nil ?_
            cases hib : inB f (l + (n : Int))
            · have HE : Hid (ckE k p f l n pages = 4) := HQ.out.1 hib
              clear hib
              go_wp2
              go_ret
              exact ⟨ret_int HE.out.symm, HG8.out⟩
            · have HE : Hid (ckE k p f l n pages = 0) := HQ.out.2 hib
              clear hib
              go_wp2
              go_ret
              exact ⟨ret_int HE.out.symm, HG8.out⟩
      · rw [decide_eq_false hm] at hna
        have HQ : Hid ((inB f (l + (n : Int)) = false → ckE k p f l n pages = 4) ∧ (inB f (l + (n : Int)) = true → ckE k p f l n pages = 0)) := ck_rest HK.out.1 HK.out.2 HFB.out (fun h => hm h.1)
        clear hm
        go_wp2_with fail
        refine hna.mono ?_
        rintro e w5 ⟨rfl, rfl⟩
        clear hna
        go_wp2
        clear c0 c1 c2 c3 c4
        refine wp_region_sched (by kernel_rfl) [(0, false), (1, false), (2, false), (3, true), (4, true), (5, false)] (by kernel_rfl) (by kernel_rfl) rfl (fun _ _ d _ _ h => by cases d <;> exact h) ?_
        simp only [inOrder, List.filterMap_cons, List.filterMap_nil, List.getElem?_toArray, List.getElem?_cons_zero, List.getElem?_cons_succ, Option.map_some]
        repeat (first
          | (refine wpS_move rfl ?_; simp only [Act.eval, Act.put, Array.getD_eq_getD_getElem?, List.getElem?_toArray, List.getElem?_cons_zero, List.getElem?_cons_succ, Option.getD_some, List.setIfInBounds_toArray, List.set_cons_zero, List.set_cons_succ])
          | (refine wpS_assign rfl ?_; simp only [Act.eval, Act.put, Array.getD_eq_getD_getElem?, List.getElem?_toArray, List.getElem?_cons_zero, List.getElem?_cons_succ, Option.getD_some, List.setIfInBounds_toArray, List.set_cons_zero, List.set_cons_succ])
          | (refine wpS_read (v := ?_) rfl ?_ ?_; rotate_left; (focus (intro w' hG; obtain ⟨c0, c1, c2, c3, c4⟩ := late5 HG4.out.1 (by first | exact .inl hG | exact .inr hG); go_simp; try (with_reducible rfl))); simp only [Act.put, List.setIfInBounds_toArray, List.set_cons_zero, List.set_cons_succ])
          | (refine wpS_skip rfl ?_; simp only [Act.put, List.setIfInBounds_toArray, List.set_cons_zero, List.set_cons_succ]))
        refine wpS_call (f := ?_) (args := ?_) (by rfl) ?_ ?_
        rotate_left 2; focus (go_simp; constructor <;> with_reducible rfl)
        refine (size_any _ _ p f l a n c hsz).mono ?_
        rintro e w8 ⟨rfl, g8⟩
        have HG8 : Hid (Grow w w8) := (HG4.out.2.trans (Grow.refl _).drew).trans g8
        refine ⟨_, rfl, g8, ?_⟩
        simp only [Act.put, List.setIfInBounds_toArray, List.set_cons_zero, List.set_cons_succ]
        repeat (first
          | (refine wpS_move rfl ?_; simp only [Act.eval, Act.put, Array.getD_eq_getD_getElem?, List.getElem?_toArray, List.getElem?_cons_zero, List.getElem?_cons_succ, Option.getD_some, List.setIfInBounds_toArray, List.set_cons_zero, List.set_cons_succ])
          | (refine wpS_assign rfl ?_; simp only [Act.eval, Act.put, Array.getD_eq_getD_getElem?, List.getElem?_toArray, List.getElem?_cons_zero, List.getElem?_cons_succ, Option.getD_some, List.setIfInBounds_toArray, List.set_cons_zero, List.set_cons_succ])
          | (refine wpS_read (v := ?_) rfl ?_ ?_; rotate_left; (focus (intro w' hG; go_simp; try (with_reducible rfl))); simp only [Act.put, List.setIfInBounds_toArray, List.set_cons_zero, List.set_cons_succ])
          | (refine wpS_skip rfl ?_; simp only [Act.put, List.setIfInBounds_toArray, List.set_cons_zero, List.set_cons_succ]))
        refine wpS_call (f := ?_) (args := ?_) (by rfl) ?_ ?_
        rotate_left 2; focus (go_simp; constructor <;> with_reducible rfl)
        refine (within_any _ f (l + (n : Int)) hf).mono ?_
        rintro e w9 ⟨rfl, rfl⟩
        refine ⟨_, rfl, Grow.refl _, ?_⟩
        simp only [Act.put, List.setIfInBounds_toArray, List.set_cons_zero, List.set_cons_succ]
        repeat (first
          | (refine wpS_move rfl ?_; simp only [Act.eval, Act.put, Array.getD_eq_getD_getElem?, List.getElem?_toArray, List.getElem?_cons_zero, List.getElem?_cons_succ, Option.getD_some, List.setIfInBounds_toArray, List.set_cons_zero, List.set_cons_succ])
          | (refine wpS_assign rfl ?_; simp only [Act.eval, Act.put, Array.getD_eq_getD_getElem?, List.getElem?_toArray, List.getElem?_cons_zero, List.getElem?_cons_succ, Option.getD_some, List.setIfInBounds_toArray, List.set_cons_zero, List.set_cons_succ])
          | (refine wpS_read (v := ?_) rfl ?_ ?_; rotate_left; (focus (intro w' hG; go_simp; try (with_reducible rfl))); simp only [Act.put, List.setIfInBounds_toArray, List.set_cons_zero, List.set_cons_succ])
          | (refine wpS_skip rfl ?_; simp only [Act.put, List.setIfInBounds_toArray, List.set_cons_zero, List.set_cons_succ]))
        refine wpS_nil ?_
        cases hib : inB f (l + (n : Int))
        · have HE : Hid (ckE k p f l n pages = 4) := HQ.out.1 hib
          clear hib
          go_wp2
          go_ret
          exact ⟨ret_int HE.out.symm, HG8.out⟩
        · have HE : Hid (ckE k p f l n pages = 0) := HQ.out.2 hib
          clear hib
          go_wp2
          go_ret
          exact ⟨ret_int HE.out.symm, HG8.out⟩
  · rw [nmI_no ho] at hnm
    have HE : Hid (ckE o p f l n pages = 2) := ckE_no ho p f l n pages
    have hE := str_empty
    clear ho
    go_enter Tryd.func12, Tryd.ntmps12
    go_wp2_with fail
    refine (hnm _ HW.out).mono ?_
    rintro e w1 ⟨rfl, rfl⟩
    clear hnm HW
    go_wp2
    go_ret
    exact ⟨ret_int HE.out.symm, HV.out.2⟩
end Go.Proofs.YtdafamocnjfmjaaDoor
