/-
  The walk of the law BitsAdds. Conditions: each theorem's own.
-/
import Derived.Test.YthgemalikenhfaaBitsSame
namespace Go.Proofs.Ythgemalikenhfaa
open Go.RowKit
set_option linter.unusedVariables false
set_option linter.unusedSimpArgs false

set_option maxHeartbeats 2000000 in
theorem bitsAdds_walk (av bv cv : Value) (la lb lc : List Bool) (w : World) (ha : RdV Value.bool false (fun i => i < w.heap.size) w av la) (hb : RdV Value.bool false (fun i => i < w.heap.size) w bv lb) (hc : RdV Value.bool false (fun i => i < w.heap.size) w cv lc) :
    Calls Try.prog 7 #[av, bv, cv] w fun e w' => e = .returned (.bool true) ∧ Below w.heap.size w w' := by
  obtain ⟨i0, hi, hz0, hz1, hz2⟩ := info_parts Try.info4
  obtain ⟨A, hA⟩ : ∃ A, A = la.take 6 := ⟨_, rfl⟩
  obtain ⟨B, hB⟩ : ∃ B, B = lb.take 6 := ⟨_, rfl⟩
  obtain ⟨C, hC⟩ : ∃ C, C = lc.take 6 := ⟨_, rfl⟩
  have lA : A.length ≤ 6 := by rw [hA, List.length_take]; omega
  have lB : B.length ≤ 6 := by rw [hB, List.length_take]; omega
  have lC : C.length ≤ 6 := by rw [hC, List.length_take]; omega
  have fA : ∀ w', Grow w w' → Calls Try.prog 9 #[av, .int .i64 6] w' fun e w'' => ∃ v', e = .returned v' ∧ RdV Value.bool false (fun i => i < w.heap.size) w' v' A ∧ w' = w'' := fun w' hg => by
    rw [hA]; exact bfew_any av la 6 6 _ w' rfl (ha.grow hg) (by omega)
  have fB : ∀ w', Grow w w' → Calls Try.prog 9 #[bv, .int .i64 6] w' fun e w'' => ∃ v', e = .returned v' ∧ RdV Value.bool false (fun i => i < w.heap.size) w' v' B ∧ w' = w'' := fun w' hg => by
    rw [hB]; exact bfew_any bv lb 6 6 _ w' rfl (hb.grow hg) (by omega)
  have fC : ∀ w', Grow w w' → Calls Try.prog 9 #[cv, .int .i64 6] w' fun e w'' => ∃ v', e = .returned v' ∧ RdV Value.bool false (fun i => i < w.heap.size) w' v' C ∧ w' = w'' := fun w' hg => by
    rw [hC]; exact bfew_any cv lc 6 6 _ w' rfl (hc.grow hg) (by omega)
  clear hA hB hC ha hb hc
  go_enter Try.func7, Try.ntmps7
  go_wp2_with fail
  refine (fA w (Grow.refl _)).mono ?_
  rintro e w0 ⟨v1, rfl, h1, rfl⟩
  go_wp2_with (at_builtin; refine wpList_appV (f := Value.bool) (d := false) (p := fun i => w.heap.size ≤ i) rfl (.tmp 10) (.tmp 12) 22 22 rfl i0 (.bool false) 1 Try.underlying22 hi hz0 hz1 hz2 rfl rfl rfl (OwnV.nil _ _ _ _ _) (h1.src oneB Try.underlying22) (by simp only [maxLen, List.length_nil]; omega) (by simp only [List.length_nil]; omega) ?_)
  intro x1 w1 o1 u1
  have g1 : Grow w w1 := UpdS.new (Grow.refl w) u1 (fun i hi => hi)
  have o1' : OwnV Value.bool false (fun i => w.heap.size ≤ i) w1 x1 A := o1.mono (fun i _ h => by omega)
  clear o1 u1 h1
  go_wp2_with fail
  refine (fB w1 g1).mono ?_
  rintro e w0 ⟨v2, rfl, h2, rfl⟩
  go_wp2_with (at_builtin; refine wpList_appV (f := Value.bool) (d := false) (p := fun i => w.heap.size ≤ i) rfl (.tmp 14) (.tmp 16) 22 22 rfl i0 (.bool false) 1 Try.underlying22 hi hz0 hz1 hz2 rfl rfl rfl o1' (h2.src oneB Try.underlying22) (by simp only [maxLen]; omega) (by omega) ?_)
  intro x2 w2 o2 u2
  have g2 : Grow w w2 := UpdS.new g1 u2 (fun i hi => hi)
  have s1 := g1.size
  have o2' : OwnV Value.bool false (fun i => w.heap.size ≤ i) w2 x2 (A ++ B) := o2.mono (fun i _ h => by omega)
  clear o2 u2 h2 o1' g1
  go_wp2_with fail
  refine (fC w2 g2).mono ?_
  rintro e w0 ⟨v3, rfl, h3, rfl⟩
  have lAB : (A ++ B).length ≤ 12 := by rw [List.length_append]; omega
  go_wp2_with (at_builtin; refine wpList_appV (f := Value.bool) (d := false) (p := fun i => w.heap.size ≤ i) rfl (.tmp 18) (.tmp 20) 22 22 rfl i0 (.bool false) 1 Try.underlying22 hi hz0 hz1 hz2 rfl rfl rfl o2' (h3.src oneB Try.underlying22) (by simp only [maxLen]; omega) (by omega) ?_)
  intro x3 w3 o3 u3
  have g3 : Grow w w3 := UpdS.new g2 u3 (fun i hi => hi)
  have s2 := g2.size
  obtain ⟨L, hL⟩ : ∃ L, L = A ++ (B ++ C) := ⟨_, rfl⟩
  have r3 : RdV Value.bool false (fun i => i < w3.heap.size) w3 x3 L := by rw [hL]; simpa using o3.rd.mono (fun i h _ => h)
  clear o3 u3 h3 o2' g2
  have lABC : L.length ≤ 18 := by rw [hL, List.length_append, List.length_append]; omega
  have HL : Hid (L = A ++ (B ++ C)) := hL
  clear hL
  go_wp2_with fail
  refine (bnew_any _ _ _ w3 r3 (by omega)).mono ?_
  rintro e w4 ⟨b1, gg1, rfl, t1, q4, hb1, hgb1⟩
  go_wp2_with fail
  refine (bnew_any _ [] (fun _ => False) w4 (RdV.nil _ _ _ _ _ _ (Nat.zero_le _)) (by simp)).mono ?_
  rintro e w5 ⟨b2, gg2, rfl, t2, q5, hb2, hgb2⟩
  have l1 := t1.lt
  have t1' := t1.grow q5
  have r5 := (r3.grow q4).grow q5
  have g5 : Grow w w5 := (g3.trans q4).trans q5
  have s3 := q4.size
  have s4 := q5.size
  have s0 := g3.size
  clear t1 r3 q4 q5 g3
  go_wp2_with fail
  refine (fA w5 g5).mono ?_
  rintro e w0 ⟨v4, rfl, h4, rfl⟩
  go_wp2_with fail
  refine (badd_any b2 gg2 [] 0 _ A _ w5 t2 h4 (by simp only [List.length_nil]; omega)).mono ?_
  rintro e w6 ⟨gg3, rfl, t3, u6, hgg3⟩
  have l2 := t2.lt
  have t1 := t1'.upd u6 (by omega) (by omega)
  have r6 := r5.upd u6 (fun i _ h => by omega)
  have g6 : Grow w w6 := UpdS.new g5 u6 (fun i hi => by omega)
  have hs6 := u6.size
  have hgb3 : w4.heap.size ≤ gg3 := by omega
  clear t1' r5 g5 u6 t2 h4 hgg3
  go_wp2_with fail
  refine (fB w6 g6).mono ?_
  rintro e w0 ⟨v5, rfl, h5, rfl⟩
  go_wp2_with fail
  refine (badd_any b2 gg3 _ 0 _ B _ w6 t3 h5 (by simp only [List.nil_append, List.length_append] at *; omega)).mono ?_
  rintro e w7 ⟨gg4, rfl, t4, u7, hgg4⟩
  have l3 := t3.lt
  have t1' := t1.upd u7 (by omega) (by omega)
  have r7 := r6.upd u7 (fun i _ h => by omega)
  have g7 : Grow w w7 := UpdS.new g6 u7 (fun i hi => by omega)
  have hs7 := u7.size
  have hgb4 : w4.heap.size ≤ gg4 := by omega
  clear t1 r6 g6 u7 t3 h5 hgg4
  go_wp2_with fail
  refine (fC w7 g7).mono ?_
  rintro e w0 ⟨v6, rfl, h6, rfl⟩
  go_wp2_with fail
  refine (badd_any b2 gg4 _ 0 _ C _ w7 t4 h6 (by simp only [List.nil_append, List.length_append] at *; omega)).mono ?_
  rintro e w8 ⟨gg5, rfl, t5, u8, hgg5⟩
  have l4 := t4.lt
  have t1 := t1'.upd u8 (by omega) (by omega)
  have r8 := r7.upd u8 (fun i _ h => by omega)
  have g8 : Grow w w8 := UpdS.new g7 u8 (fun i hi => by omega)
  have t5' : StrAt w8 b2 gg5 L 0 := by rw [HL.out]; simpa using t5
  clear t1' r7 g7 u8 t4 h6 hgg5 t5
  go_wp2_with fail
  refine (bleft_any b1 gg1 _ 0 w8 t1 (by omega)).mono ?_
  rintro e w9 ⟨v7, rfl, h7, g9, -⟩
  go_wp2_with fail
  refine (bsame_any _ _ _ _ _ _ w9 h7.rd (r8.grow g9)).mono ?_
  rintro e w10 ⟨rfl, g10⟩
  have hd : decide (L = L) = true := decide_eq_true rfl
  rw [hd]
  have g10' : Grow w8 w10 := g9.trans g10
  have t6 := t5'.grow g10'
  have r9 := r8.grow g10'
  have gw : Grow w w10 := g8.trans g10'
  clear hd g9 g10 g10' t5' r8 g8 h7 t1
  go_wp2_with fail
  refine (bleft_any b2 gg5 _ 0 w10 t6 (by omega)).mono ?_
  rintro e w11 ⟨v8, rfl, h8, g11, -⟩
  go_wp2_with fail
  refine (bsame_any _ _ _ _ _ _ w11 h8.rd (r9.grow g11)).mono ?_
  rintro e w12 ⟨rfl, g12⟩
  have hd : decide (L = L) = true := decide_eq_true rfl
  rw [hd]
  have g12' : Grow w10 w12 := g11.trans g12
  have t7 := t6.grow g12'
  have gw' : Grow w w12 := gw.trans g12'
  clear hd t6 g11 g12 g12' gw h8 r9
  go_wp2_with fail
  refine (bat_any b2 gg5 _ 0 w12 t7).mono ?_
  rintro e w13 ⟨rfl, rfl⟩
  go_wp2_with fail
  refine (blives_any w12).mono ?_
  rintro e w14 ⟨rfl, g14⟩
  go_wp2
  go_ret
  exact ⟨rfl, gw'.trans g14⟩
end Go.Proofs.Ythgemalikenhfaa
