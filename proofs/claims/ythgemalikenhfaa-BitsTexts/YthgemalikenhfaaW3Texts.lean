/-
  The walk of the law BitsTexts. Conditions: each theorem's own.
-/
import Derived.Test.YthgemalikenhfaaBitsParse
namespace Go.Proofs.Ythgemalikenhfaa
open Go.RowKit
set_option linter.unusedVariables false
set_option linter.unusedSimpArgs false

theorem okB_txt (xs : List Bool) : okB (txt xs) = true := by
  unfold okB txt
  rw [List.all_map, List.all_eq_true]
  intro x _
  cases x <;> rfl
theorem bitsOf_txt (xs : List Bool) : bitsOf (txt xs) = xs := by
  unfold bitsOf txt
  rw [List.map_map]
  conv => rhs; rw [← List.map_id xs]
  refine List.map_congr_left fun x _ => ?_
  cases x <;> rfl
theorem resB_txt (xs : List Bool) : resB (txt xs) = xs ∧ resE (txt xs) = 0 := by
  obtain ⟨h1, h2⟩ := resB_ok (okB_txt xs)
  exact ⟨by rw [h1, bitsOf_txt], h2⟩

set_option maxHeartbeats 2000000 in
theorem bitsTexts_walk (lv : Value) (l : List Bool) (s : ByteArray) (w : World) (hl : RdV Value.bool false (fun i => i < w.heap.size) w lv l) (hs : s.size ≤ maxLen) :
    Calls Try.prog 5 #[lv, .string s] w fun e w' => e = .returned (.bool true) ∧ Below w.heap.size w w' := by
  obtain ⟨O, hO⟩ : ∃ O, O = l.take 20 := ⟨_, rfl⟩
  have lO : O.length ≤ 20 := by rw [hO, List.length_take]; omega
  have fA : Calls Try.prog 9 #[lv, .int .i64 20] w fun e w'' => ∃ v', e = .returned v' ∧ RdV Value.bool false (fun i => i < w.heap.size) w v' O ∧ w = w'' := by
    rw [hO]; exact bfew_any lv l 20 20 _ w rfl hl (by omega)
  clear hO hl
  have hT : ∀ w, Calls Try.prog 20 #[.string ⟨(txt O).toArray⟩] w fun e w' => ∃ v', e = .returned (.tuple #[v', .int .i64 0]) ∧ RdV Value.bool false (fun i => i = w.heap.size) w' v' O ∧ Grow w w' := fun w => by
    have h := bparse_any ⟨(txt O).toArray⟩ w (by show (txt O).toArray.size ≤ 1000; rw [List.size_toArray, txt_length]; omega)
    have e1 : (⟨(txt O).toArray⟩ : ByteArray).data.toList = txt O := rfl
    rw [e1, (resB_txt O).1, (resB_txt O).2] at h
    exact h
  have hrt := fun sv p w h => rtext_any sv O p w h (by omega)
  have hbt := fun sv p w h => btext_any sv O p w h (by omega)
  go_enter Try.func5, Try.ntmps5
  go_wp2_with fail
  refine fA.mono ?_
  rintro e w0 ⟨v0, rfl, r0, rfl⟩
  go_wp2_with fail
  refine (hbt _ _ w r0).mono ?_
  rintro e w1 ⟨rfl, g1⟩
  generalize (⟨(txt O).toArray⟩ : ByteArray) = T at hT hrt ⊢
  clear hbt
  go_wp2_with fail
  refine (hT w1).mono ?_
  rintro e w2 ⟨vb, rfl, rb, q2⟩
  go_wp2_with fail
  refine (short_any s 20 20 w2 rfl hs (by omega)).mono ?_
  rintro e w0 ⟨s', rfl, hs', rfl⟩
  clear hT fA
  go_wp2_with fail
  refine (bparse_any s' w2 (by omega)).mono ?_
  rintro e w3 ⟨vx, rfl, rx, q3⟩
  go_wp2_with fail
  refine (rparse_any s' w3 (by omega)).mono ?_
  rintro e w4 ⟨vy, rfl, ry, q4⟩
  have q34 : Grow w2 w4 := q3.trans q4
  have g4 : Grow w w4 := (g1.trans q2).trans q34
  have hres : (okB s'.data.toList = true ∧ resE s'.data.toList = 0) ∨ (okB s'.data.toList = false ∧ resE s'.data.toList = 2) := by
    cases h : okB s'.data.toList with
    | true => exact .inl ⟨rfl, (resB_ok h).2⟩
    | false => exact .inr ⟨rfl, (resB_no h).2⟩
  generalize resB s'.data.toList = L at rx ry
  rcases hres with ⟨e1, e2⟩ | ⟨e1, e2⟩
  · rw [e1, e2]
    clear e1 e2
    go_wp2_with fail
    refine (hrt _ _ w4 (r0.grow g4)).mono ?_
    rintro e w5 ⟨rfl, q5⟩
    have g5 : Grow w w5 := g4.trans q5
    go_wp2_with fail
    refine (bsame_any _ _ _ _ _ _ w5 (((rb.grow q34).grow q5)) (r0.grow g5)).mono ?_
    rintro e w6 ⟨rfl, q6⟩
    have hd : decide (O = O) = true := decide_eq_true rfl
    rw [hd]
    clear hd
    go_wp2_with fail
    refine (bsame_any _ _ _ _ _ _ w6 (((rx.grow q4).grow q5).grow q6) ((ry.grow q5).grow q6)).mono ?_
    rintro e w7 ⟨rfl, q7⟩
    have hd : ∀ L : List Bool, decide (L = L) = true := fun L => decide_eq_true rfl
    rw [hd]
    clear hd
    go_wp2_with fail
    refine (blives_any w7).mono ?_
    rintro e w8 ⟨rfl, q8⟩
    go_wp2
    go_ret
    exact ⟨rfl, ((g5.trans q6).trans q7).trans q8⟩
  · rw [e1, e2]
    clear e1 e2
    go_wp2_with fail
    refine (hrt _ _ w4 (r0.grow g4)).mono ?_
    rintro e w5 ⟨rfl, q5⟩
    have g5 : Grow w w5 := g4.trans q5
    go_wp2_with fail
    refine (bsame_any _ _ _ _ _ _ w5 (((rb.grow q34).grow q5)) (r0.grow g5)).mono ?_
    rintro e w6 ⟨rfl, q6⟩
    have hd : decide (O = O) = true := decide_eq_true rfl
    rw [hd]
    clear hd
    go_wp2_with fail
    refine (bsame_any _ _ _ _ _ _ w6 (((rx.grow q4).grow q5).grow q6) ((ry.grow q5).grow q6)).mono ?_
    rintro e w7 ⟨rfl, q7⟩
    have hd : ∀ L : List Bool, decide (L = L) = true := fun L => decide_eq_true rfl
    rw [hd]
    clear hd
    go_wp2_with fail
    refine (blives_any w7).mono ?_
    rintro e w8 ⟨rfl, q8⟩
    go_wp2
    go_ret
    exact ⟨rfl, ((g5.trans q6).trans q7).trans q8⟩
end Go.Proofs.Ythgemalikenhfaa
