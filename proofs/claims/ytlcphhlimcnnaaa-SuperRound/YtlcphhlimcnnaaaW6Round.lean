/-
  The walk of the law SuperRound. Conditions: the theorem's own.
-/
import Derived.Test.YtlcphhlimcnnaaaSupGood
import Derived.Test.YtlcphhlimcnnaaaSupRead
namespace Go.Proofs.Ytlcphhlimcnnaaa
open Go.RowKit
set_option linter.unusedVariables false
set_option linter.unusedSimpArgs false

/-- a superblock's bytes with one of them turned are not taken -/
theorem sbytes_turned (ep fr dp se : Int) (ps : List Pt) (k : Nat) (y : Int) (hk : k < (sbytes ep fr dp se ps).length) (hy0 : 0 ≤ y) (hy : y < 256) (hne : y ≠ (sbytes ep fr dp se ps).getD k 0) : taken ((sbytes ep fr dp se ps).set k y) = ([], 9) :=
  taken_turned (oct_leAll _) hk hy0 hy hne

set_option maxHeartbeats 8000000 in
theorem superRound_walk {p : Nat → Prop} (ep fr dp se : Int) (v : Value) (ps : List Pt) (at' b0 : Int) (w : World) (h : RdP p w v ps) (hok : ∀ x ∈ ps, x.Ok) (hep : (Lit.int .i64 ep).wf = true) (hdp : W64 dp) (hse : W64 se) (hat : (Lit.int .i64 at').wf = true) (hb0 : 0 ≤ b0) (hb1 : b0 < 256) :
    Calls Try.prog 4 #[.int .i64 ep, .agg #[.int .i64 fr, .int .i64 dp, .int .i64 se, v], .int .i64 at', .int .u8 b0] w fun e w' => e = .returned (.bool true) ∧ Below w.heap.size w w' := by
  have HG : Hid (Grow w (w.alloc (.cells #[.int .i64 fr, .int .i64 dp, .int .i64 se, v] 24))) := (Grow.refl w).alloc _
  have hgood := fun w' (g : Grow w w') => qgood_any ep fr dp se v ps w' (RdS.grow h g) hok hep hdp hse
  obtain ⟨a, cp, rfl, h1, h2, -⟩ := h
  clear hok hdp hse hep h1 h2
  go_enter Try.func4, Try.ntmps4
  go_wp2_with fail
  refine (hgood _ HG.out).mono ?_
  rintro e w2 ⟨e1, f1, d1, s1, v1, q1, rfl, hE, hG, hR, g2⟩
  have HR0 : Hid (RdP (fun _ => True) w2 v1 q1 ∧ Grow w w2) := ⟨RdS.mono hR (fun _ _ _ => trivial), HG.out.trans g2⟩
  obtain ⟨a1, c1, rfl⟩ := hR.shape
  have X : Hid (VarAt (w2.alloc (.cells #[.int .i64 e1, .int .i64 f1, .int .i64 d1, .int .i64 s1, .slice a1 q1.length c1] 26)) w2.heap.size [.int .i64 e1, .int .i64 f1, .int .i64 d1, .int .i64 s1, .slice a1 q1.length c1] ∧ RdP (fun _ => True) (w2.alloc (.cells #[.int .i64 e1, .int .i64 f1, .int .i64 d1, .int .i64 s1, .slice a1 q1.length c1] 26)) (.slice a1 q1.length c1) q1 ∧ Grow w (w2.alloc (.cells #[.int .i64 e1, .int .i64 f1, .int .i64 d1, .int .i64 s1, .slice a1 q1.length c1] 26))) := ⟨VarAt.new w2 [.int .i64 e1, .int .i64 f1, .int .i64 d1, .int .i64 s1, .slice a1 q1.length c1] _, RdS.grow HR0.out.1 ((Grow.refl _).alloc _), HR0.out.2.alloc _⟩
  have hm := mayS_good hE.1 hE.2 hG
  have hq4 : q1.length ≤ 4 := by have := hG.bounds; omega
  have hwe : W64 e1 := by unfold W64; omega
  have hwf := hG.wf
  clear hR g2 hgood HG hG hE HR0
  go_wp2_with fail
  generalize (w2.alloc (.cells #[.int .i64 e1, .int .i64 f1, .int .i64 d1, .int .i64 s1, .slice a1 q1.length c1] 26)) = w3 at X ⊢
  generalize w2.heap.size = b9 at X ⊢
  refine (of_any e1 f1 d1 s1 a1 _ c1 w3).mono ?_
  rintro e w4 ⟨rfl, g4⟩
  have hwr := write_yes e1 f1 d1 s1 _ q1 w4 (RdS.grow X.out.2.1 g4) hm
  have hrg := fun u v' (hr : Rd .u8 u.heap.size u v' (sbytes e1 f1 d1 s1 q1)) => sread_good v' e1 f1 d1 s1 q1 _ u hr hm hwe hwf.1 hwf.2.1 hwf.2.2.1 hwf.2.2.2 (by omega)
  have hop := oct_sbytes e1 f1 d1 s1 q1
  have HT : Hid (∀ (k : Nat) (y : Int), k < (sbytes e1 f1 d1 s1 q1).length → 0 ≤ y → y < 256 → y ≠ (sbytes e1 f1 d1 s1 q1).getD k 0 → taken ((sbytes e1 f1 d1 s1 q1).set k y) = ([], 9)) := sbytes_turned e1 f1 d1 s1 q1
  have hsl := sbytes_length e1 f1 d1 s1 q1
  have hl1 : 1 ≤ (sbytes e1 f1 d1 s1 q1).length := by omega
  have hl2 : (sbytes e1 f1 d1 s1 q1).length ≤ 1000 := by omega
  clear hsl
  generalize sbytes e1 f1 d1 s1 q1 = SB at hwr hrg hop HT hl1 hl2
  have hz1 : ((SB.length : Int) == 0) = false := by rw [beq_eq_false_iff_ne]; omega
  have hbd := around_bd at' (SB.length : Int) (by omega)
  obtain ⟨k, hk⟩ := Int.eq_ofNat_of_zero_le hbd.1
  rw [hk] at hbd
  obtain ⟨-, hk1⟩ := hbd
  have har := fun w => around_any at' (SB.length : Int) w hat (by omega) (by omega)
  rw [hk] at har
  have HR : Hid (∀ w, Calls Try.prog 19 #[.int .i64 at', .int .i64 (SB.length : Int)] w fun e w' => e = .returned (.int .i64 (k : Int)) ∧ w = w') := har
  clear har hk hat
  have hk : k < SB.length := by omega
  have hk0 : (0 : Int) ≤ (k : Int) := by omega
  have HG4 : Hid (Grow w3 w4) := g4
  clear hwf hwe hm g4
  go_wp2_with fail
  refine hwr.mono ?_
  rintro e w5 ⟨v5, rfl, ho5, g5⟩
  have HO : Hid (Own .u8 w4.heap.size w5 v5 SB) := ho5
  have hr5 := hrg w5 v5 ho5.rd
  clear hwr hrg ho5
  go_wp2_with fail
  refine hr5.mono ?_
  rintro e w6 ⟨v6, rfl, hR6, g6⟩
  obtain ⟨a6, c6, rfl⟩ := hR6.shape
  obtain ⟨a5, c5, hv5⟩ := HO.out.shape
  subst hv5
  have HX : Hid (VarAt (w6.alloc (.cells #[.int .i64 e1, .int .i64 f1, .int .i64 d1, .int .i64 s1, .slice a6 q1.length c6] 36)) b9 [.int .i64 e1, .int .i64 f1, .int .i64 d1, .int .i64 s1, .slice a1 q1.length c1] ∧ VarAt (w6.alloc (.cells #[.int .i64 e1, .int .i64 f1, .int .i64 d1, .int .i64 s1, .slice a6 q1.length c6] 36)) w6.heap.size [.int .i64 e1, .int .i64 f1, .int .i64 d1, .int .i64 s1, .slice a6 q1.length c6] ∧ RdP (fun _ => True) (w6.alloc (.cells #[.int .i64 e1, .int .i64 f1, .int .i64 d1, .int .i64 s1, .slice a6 q1.length c6] 36)) (.slice a1 q1.length c1) q1 ∧ RdP (fun _ => True) (w6.alloc (.cells #[.int .i64 e1, .int .i64 f1, .int .i64 d1, .int .i64 s1, .slice a6 q1.length c6] 36)) (.slice a6 q1.length c6) q1 ∧ Own .u8 w4.heap.size (w6.alloc (.cells #[.int .i64 e1, .int .i64 f1, .int .i64 d1, .int .i64 s1, .slice a6 q1.length c6] 36)) (.slice a5 SB.length c5) SB ∧ Grow w (w6.alloc (.cells #[.int .i64 e1, .int .i64 f1, .int .i64 d1, .int .i64 s1, .slice a6 q1.length c6] 36)) ∧ w.heap.size ≤ w4.heap.size) := by
    have g36 : Grow w3 w6 := HG4.out.trans (g5.trans g6)
    have gA : Grow w6 (w6.alloc (.cells #[.int .i64 e1, .int .i64 f1, .int .i64 d1, .int .i64 s1, .slice a6 q1.length c6] 36)) := (Grow.refl w6).alloc _
    exact ⟨X.out.1.grow (g36.trans gA), VarAt.new w6 [.int .i64 e1, .int .i64 f1, .int .i64 d1, .int .i64 s1, .slice a6 q1.length c6] _, RdS.grow X.out.2.1 (g36.trans gA), RdS.mono (RdS.grow hR6 gA) (fun _ _ _ => trivial), (HO.out.below g6 (Nat.le_refl _)).below gA (Nat.le_refl _), (X.out.2.2.trans g36).trans gA, (X.out.2.2.trans HG4.out).size⟩
  clear X HO g5 g6 hR6 hr5 HG4
  go_wp2
  generalize (w6.alloc (.cells #[.int .i64 e1, .int .i64 f1, .int .i64 d1, .int .i64 s1, .slice a6 q1.length c6] 36)) = w7 at HX ⊢
  generalize w6.heap.size = b12 at HX ⊢
  have kx : ∀ w', Grow w7.drew w' → VarAt w' b9 [.int .i64 e1, .int .i64 f1, .int .i64 d1, .int .i64 s1, .slice a1 q1.length c1] ∧ VarAt w' b12 [.int .i64 e1, .int .i64 f1, .int .i64 d1, .int .i64 s1, .slice a6 q1.length c6] := fun w' h => ⟨HX.out.1.grow ((Grow.refl w7).drew.trans h), HX.out.2.1.grow ((Grow.refl w7).drew.trans h)⟩
  refine wp_region_sched (by kernel_rfl) [(0, false), (1, false), (2, false), (3, false), (4, false), (5, false), (6, false), (7, false), (9, false), (8, true), (10, true), (11, false), (12, false), (13, false), (14, false), (15, false), (16, false), (17, false), (18, false), (19, false), (20, false), (21, false), (22, false), (23, false), (24, false), (25, false), (26, false)] (by kernel_rfl) (by kernel_rfl) rfl (fun _ _ d _ _ h => by cases d <;> exact h) ?_
  simp only [inOrder, List.filterMap_cons, List.filterMap_nil, List.getElem?_toArray, List.getElem?_cons_zero, List.getElem?_cons_succ, Option.map_some]
  repeat (first
    | (refine wpS_move rfl ?_; simp only [Act.eval, Act.put, Array.getD_eq_getD_getElem?, List.getElem?_toArray, List.getElem?_cons_zero, List.getElem?_cons_succ, Option.getD_some, List.setIfInBounds_toArray, List.set_cons_zero, List.set_cons_succ])
    | (refine wpS_assign rfl ?_; simp only [Act.eval, Act.put, Array.getD_eq_getD_getElem?, List.getElem?_toArray, List.getElem?_cons_zero, List.getElem?_cons_succ, Option.getD_some, List.setIfInBounds_toArray, List.set_cons_zero, List.set_cons_succ])
    | (refine wpS_read (v := ?_) rfl ?_ ?_; rotate_left; (focus (intro w' hG; obtain ⟨⟨k0, k1, k2, k3, k4⟩, -⟩ := (kx w' hG).1.five; obtain ⟨⟨l0, l1, l2, l3, l4⟩, -⟩ := (kx w' hG).2.five; go_simp; try (with_reducible rfl))); simp only [Act.put, List.setIfInBounds_toArray, List.set_cons_zero, List.set_cons_succ])
    | (refine wpS_skip rfl ?_; simp only [Act.put, List.setIfInBounds_toArray, List.set_cons_zero, List.set_cons_succ]))
  refine wpS_call (f := ?_) (args := ?_) (by rfl) ?_ ?_
  rotate_left 2; focus (go_simp; constructor <;> with_reducible rfl)
  refine (as_any e1 f1 d1 s1 a6 _ c6 _).mono ?_
  rintro e u1 ⟨rfl, j1⟩
  refine ⟨_, rfl, j1, ?_⟩
  simp only [Act.put, List.setIfInBounds_toArray, List.set_cons_zero, List.set_cons_succ]
  repeat (first
    | (refine wpS_move rfl ?_; simp only [Act.eval, Act.put, Array.getD_eq_getD_getElem?, List.getElem?_toArray, List.getElem?_cons_zero, List.getElem?_cons_succ, Option.getD_some, List.setIfInBounds_toArray, List.set_cons_zero, List.set_cons_succ])
    | (refine wpS_assign rfl ?_; simp only [Act.eval, Act.put, Array.getD_eq_getD_getElem?, List.getElem?_toArray, List.getElem?_cons_zero, List.getElem?_cons_succ, Option.getD_some, List.setIfInBounds_toArray, List.set_cons_zero, List.set_cons_succ])
    | (refine wpS_read (v := ?_) rfl ?_ ?_; rotate_left; (focus (intro w' hG; skip; go_simp; try (with_reducible rfl))); simp only [Act.put, List.setIfInBounds_toArray, List.set_cons_zero, List.set_cons_succ])
    | (refine wpS_skip rfl ?_; simp only [Act.put, List.setIfInBounds_toArray, List.set_cons_zero, List.set_cons_succ]))
  have gg1 : Grow w7 u1 := (Grow.refl w7).drew.trans j1
  have hsm := qsame_any e1 f1 d1 s1 _ q1 e1 f1 d1 s1 _ q1 u1 (RdS.grow HX.out.2.2.2.1 gg1) (RdS.grow HX.out.2.2.1 gg1)
  rw [sameS_self] at hsm
  refine wpS_call (f := ?_) (args := ?_) (by rfl) ?_ ?_
  rotate_left 2; focus (go_simp; constructor <;> with_reducible rfl)
  refine (hsm).mono ?_
  rintro e u3 ⟨rfl, j3⟩
  refine ⟨_, rfl, j3, ?_⟩
  simp only [Act.put, List.setIfInBounds_toArray, List.set_cons_zero, List.set_cons_succ]
  have kx2 : ∀ w', Grow u3 w' → VarAt w' b9 [.int .i64 e1, .int .i64 f1, .int .i64 d1, .int .i64 s1, .slice a1 q1.length c1] ∧ VarAt w' b12 [.int .i64 e1, .int .i64 f1, .int .i64 d1, .int .i64 s1, .slice a6 q1.length c6] := fun w' h => kx w' ((j1.trans j3).trans h)
  repeat (first
    | (refine wpS_move rfl ?_; simp only [Act.eval, Act.put, Array.getD_eq_getD_getElem?, List.getElem?_toArray, List.getElem?_cons_zero, List.getElem?_cons_succ, Option.getD_some, List.setIfInBounds_toArray, List.set_cons_zero, List.set_cons_succ])
    | (refine wpS_assign rfl ?_; simp only [Act.eval, Act.put, Array.getD_eq_getD_getElem?, List.getElem?_toArray, List.getElem?_cons_zero, List.getElem?_cons_succ, Option.getD_some, List.setIfInBounds_toArray, List.set_cons_zero, List.set_cons_succ])
    | (refine wpS_read (v := ?_) rfl ?_ ?_; rotate_left; (focus (intro w' hG; obtain ⟨⟨k0, k1, k2, k3, k4⟩, -⟩ := (kx2 w' hG).1.five; obtain ⟨⟨l0, l1, l2, l3, l4⟩, -⟩ := (kx2 w' hG).2.five; go_simp; try (with_reducible rfl))); simp only [Act.put, List.setIfInBounds_toArray, List.set_cons_zero, List.set_cons_succ])
    | (refine wpS_skip rfl ?_; simp only [Act.put, List.setIfInBounds_toArray, List.set_cons_zero, List.set_cons_succ]))
  refine wpS_nil ?_
  have Y : Hid (Own .u8 w4.heap.size w7 (.slice a5 SB.length c5) SB ∧ True ∧ w.heap.size ≤ w4.heap.size ∧ Grow w u3 ∧ Grow w7 u3) := ⟨HX.out.2.2.2.2.1, trivial, HX.out.2.2.2.2.2.2, HX.out.2.2.2.2.2.1.trans (gg1.trans j3), gg1.trans j3⟩
  clear kx kx2 hsm gg1 j1 j3 HX
  by_cases hz : b0 = 0
  · have hbz : (b0 == 0) = true := by simp [hz]
    clear hz hb0 hb1
    have hxb := hop.getD k
    have hbx : bits .xor .u8 (SB.getD k 0) 1 = (((SB.getD k 0).toNat ^^^ (1 : Int).toNat : Nat) : Int) := u8_xor _ _ hxb.1 hxb.2 (by omega) (by omega)
    have hlt8 : (SB.getD k 0).toNat ^^^ (1 : Int).toNat < 256 := xor_lt8 (by omega) (by omega)
    have hne := xor_ne (x := SB.getD k 0) (b := 1) hxb.1 (by omega)
    have HTU : Hid (taken (SB.set k ((SB.getD k 0).toNat ^^^ (1 : Int).toNat : Nat)) = ([], 9)) := HT.out k _ hk (by omega) (by omega) hne
    have hos : Oct (SB.set k ((SB.getD k 0).toNat ^^^ (1 : Int).toNat : Nat)) := hop.set k (by omega) (by omega)
    have HLS : Hid ((SB.set k ((SB.getD k 0).toNat ^^^ (1 : Int).toNat : Nat)).length ≤ 1000000) := by show (SB.set k _).length ≤ 1000000; rw [List.length_set]; omega
    obtain ⟨g, o, c, hsl, hg, hgc, hcm, hcell, hfr, hset⟩ := (Y.out.1.below Y.out.2.2.2.2 (Nat.le_refl _)).row hk
    have hown := hset ((SB.getD k 0).toNat ^^^ (1 : Int).toNat : Nat)
    have hbs : Below w.heap.size w (u3.setCell ⟨g, o + k, none⟩ (.int .u8 ((SB.getD k 0).toNat ^^^ (1 : Int).toNat : Nat))) := UpdS.new Y.out.2.2.2.1 (upd_one u3 g (o + k) _) (fun i hi => by have h3 := Y.out.2.2.1; omega)
    generalize ((SB.getD k 0).toNat ^^^ (1 : Int).toNat : Nat) = y at hown hbs hbx HTU hos HLS
    clear hset hne hxb hlt8
    generalize SB.getD k 0 = x at hcell hbx
    injection hsl with ea en ec
    subst ea ec
    clear en
    unfold maxLen at hcm
    have hrd := sread_bad _ _ _ _ hown.rd hos HLS.out HTU.out
    clear hown hos HLS HTU hg Y
    go_wp2_with fail
    refine HR.out u3 |>.mono ?_
    rintro e u4 ⟨rfl, rfl⟩
    go_wp2_with fail
    refine hrd.mono ?_
    rintro e w11 ⟨rfl, j11⟩
    have Z1 : Hid (VarAt (w11.alloc (.cells #[.int .i64 (0 : Int), .int .i64 (0 : Int), .int .i64 (0 : Int), .int .i64 (0 : Int), .slice none 0 0] 36)) w11.heap.size [.int .i64 (0 : Int), .int .i64 (0 : Int), .int .i64 (0 : Int), .int .i64 (0 : Int), .slice none 0 0] ∧ Below w.heap.size w (w11.alloc (.cells #[.int .i64 (0 : Int), .int .i64 (0 : Int), .int .i64 (0 : Int), .int .i64 (0 : Int), .slice none 0 0] 36))) := ⟨VarAt.new w11 [.int .i64 (0 : Int), .int .i64 (0 : Int), .int .i64 (0 : Int), .int .i64 (0 : Int), .slice none 0 0] _, Below.trans (hbs.trans (j11.mono hbs.size)) (Below.mono ((Grow.refl w11).alloc _) (Nat.le_trans hbs.size j11.size))⟩
    clear hrd hbs j11 hcell hfr
    go_wp2_with fail
    generalize (w11.alloc (.cells #[.int .i64 (0 : Int), .int .i64 (0 : Int), .int .i64 (0 : Int), .int .i64 (0 : Int), .slice none 0 0] 36)) = w12 at Z1 ⊢
    refine (lives_any _).mono ?_
    rintro e w13 ⟨rfl, j13⟩
    go_wp2
    go_ret
    exact ⟨rfl, Z1.out.2.trans (Below.mono j13 Z1.out.2.size)⟩
  · have hbz : (b0 == 0) = false := by simp [hz]
    have hbp : 0 < b0 := by omega
    clear hz
    have hxb := hop.getD k
    have hbx : bits .xor .u8 (SB.getD k 0) b0 = (((SB.getD k 0).toNat ^^^ (b0 : Int).toNat : Nat) : Int) := u8_xor _ _ hxb.1 hxb.2 (by omega) (by omega)
    have hlt8 : (SB.getD k 0).toNat ^^^ (b0 : Int).toNat < 256 := xor_lt8 (by omega) (by omega)
    have hne := xor_ne (x := SB.getD k 0) (b := b0) hxb.1 (by omega)
    have HTU : Hid (taken (SB.set k ((SB.getD k 0).toNat ^^^ (b0 : Int).toNat : Nat)) = ([], 9)) := HT.out k _ hk (by omega) (by omega) hne
    have hos : Oct (SB.set k ((SB.getD k 0).toNat ^^^ (b0 : Int).toNat : Nat)) := hop.set k (by omega) (by omega)
    have HLS : Hid ((SB.set k ((SB.getD k 0).toNat ^^^ (b0 : Int).toNat : Nat)).length ≤ 1000000) := by show (SB.set k _).length ≤ 1000000; rw [List.length_set]; omega
    obtain ⟨g, o, c, hsl, hg, hgc, hcm, hcell, hfr, hset⟩ := (Y.out.1.below Y.out.2.2.2.2 (Nat.le_refl _)).row hk
    have hown := hset ((SB.getD k 0).toNat ^^^ (b0 : Int).toNat : Nat)
    have hbs : Below w.heap.size w (u3.setCell ⟨g, o + k, none⟩ (.int .u8 ((SB.getD k 0).toNat ^^^ (b0 : Int).toNat : Nat))) := UpdS.new Y.out.2.2.2.1 (upd_one u3 g (o + k) _) (fun i hi => by have h3 := Y.out.2.2.1; omega)
    generalize ((SB.getD k 0).toNat ^^^ (b0 : Int).toNat : Nat) = y at hown hbs hbx HTU hos HLS
    clear hset hne hxb hlt8
    generalize SB.getD k 0 = x at hcell hbx
    injection hsl with ea en ec
    subst ea ec
    clear en
    unfold maxLen at hcm
    have hrd := sread_bad _ _ _ _ hown.rd hos HLS.out HTU.out
    clear hown hos HLS HTU hg Y
    go_wp2_with fail
    refine HR.out u3 |>.mono ?_
    rintro e u4 ⟨rfl, rfl⟩
    go_wp2_with fail
    refine hrd.mono ?_
    rintro e w11 ⟨rfl, j11⟩
    have Z1 : Hid (VarAt (w11.alloc (.cells #[.int .i64 (0 : Int), .int .i64 (0 : Int), .int .i64 (0 : Int), .int .i64 (0 : Int), .slice none 0 0] 36)) w11.heap.size [.int .i64 (0 : Int), .int .i64 (0 : Int), .int .i64 (0 : Int), .int .i64 (0 : Int), .slice none 0 0] ∧ Below w.heap.size w (w11.alloc (.cells #[.int .i64 (0 : Int), .int .i64 (0 : Int), .int .i64 (0 : Int), .int .i64 (0 : Int), .slice none 0 0] 36))) := ⟨VarAt.new w11 [.int .i64 (0 : Int), .int .i64 (0 : Int), .int .i64 (0 : Int), .int .i64 (0 : Int), .slice none 0 0] _, Below.trans (hbs.trans (j11.mono hbs.size)) (Below.mono ((Grow.refl w11).alloc _) (Nat.le_trans hbs.size j11.size))⟩
    clear hrd hbs j11 hcell hfr
    go_wp2_with fail
    generalize (w11.alloc (.cells #[.int .i64 (0 : Int), .int .i64 (0 : Int), .int .i64 (0 : Int), .int .i64 (0 : Int), .slice none 0 0] 36)) = w12 at Z1 ⊢
    refine (lives_any _).mono ?_
    rintro e w13 ⟨rfl, j13⟩
    go_wp2
    go_ret
    exact ⟨rfl, Z1.out.2.trans (Below.mono j13 Z1.out.2.size)⟩
end Go.Proofs.Ytlcphhlimcnnaaa
