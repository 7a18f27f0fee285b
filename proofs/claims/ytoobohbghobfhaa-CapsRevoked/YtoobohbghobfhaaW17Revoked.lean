/-
  The walk of CapsRevoked. Conditions: the theorem's own.
-/
import Derived.Test.YtoobohbghobfhaaCapQ
namespace Go.Proofs.Ytoobohbghobfhaa
open Go.RowKit
set_option linter.unusedVariables false
set_option linter.unusedSimpArgs false

theorem clear_good {S : List Sl} {i : Nat} {d : Cp} (h : goodB S d = false) : goodB (S.set i Sl.zero) d = false := by
  cases hg : goodB (S.set i Sl.zero) d
  · rfl
  · by_cases e : i = d.s.toNat
    · subst e
      rw [good_cleared] at hg; cases hg
    · rw [good_ne _ e, h] at hg; cases hg
/-- behind the revoke: d is not good, and of an old generation -/
def RvP (S : List Sl) (n : Int) (c : Nat) (d : Cp) : Prop := RootOk S 3 n ∧ (allS S).length = c ∧ goodB S d = false ∧ d.g < 3145728 + n
theorem RvP.step {S : List Sl} {n : Int} {c : Nat} {d : Cp} (h : RvP S n c d) (hc : c ≤ 7) (hn : n < 1048576) :
    RootOk (minted S 3 n 15) 3 (n + 1) ∧ goodB (minted S 3 n 15) ⟨roomN S, 3145728 + n⟩ = true ∧ goodB (minted S 3 n 15) d = false ∧ RvP ((minted S 3 n 15).set (roomN S) Sl.zero) (n + 1) c d := by
  obtain ⟨h1, h2, h3, h4⟩ := h
  have hl : (allS S).length < 8 := by omega
  obtain ⟨m1, m2⟩ := h1.mint hl hn (show 15 < 16 by omega)
  have hr := h1.room hl
  have hg : goodB (minted S 3 n 15) ⟨roomN S, 3145728 + n⟩ = true := (h1.mint_good hl 15 _).2 (.inr rfl)
  have hd : goodB (minted S 3 n 15) d = false := by
    cases e : goodB (minted S 3 n 15) d
    · rfl
    · rcases (h1.mint_good hl 15 d).1 e with x | x
      · rw [h3] at x; cases x
      · rw [x] at h4
        simp only at h4
        omega
  obtain ⟨c1, c2⟩ := m1.cut (d := ⟨roomN S, 3145728 + n⟩) (by show (1 : Int) ≤ (roomN S : Int); omega) hg
  simp only [Int.toNat_natCast] at c1 c2
  exact ⟨m1, hg, hd, c1, by omega, clear_good hd, by omega⟩
/-- .. in memory -/
def RvM (w wr : World) (b b13 : Nat) (S : List Sl) (n : Int) (d : Cp) : Prop :=
  TbAt wr b S 3 n ∧ VarAt wr b13 [.int .i64 d.s, .int .i64 d.g] ∧ Grow w wr ∧ w.heap.size ≤ b ∧ b < b13
theorem RvM.grow {w wr w2 : World} {b b13 : Nat} {S : List Sl} {n : Int} {d : Cp} (h : RvM w wr b b13 S n d) (g : Grow wr w2) : RvM w w2 b b13 S n d :=
  ⟨h.1.grow g, h.2.1.grow g, h.2.2.1.trans g, h.2.2.2.1, h.2.2.2.2⟩
theorem RvM.turn {w wr w2 : World} {b b13 : Nat} {S S' : List Sl} {n n' : Int} {d : Cp} (h : RvM w wr b b13 S n d) (t : TbAt w2 b S' 3 n') (u : UpdS (fun x => x = b) wr w2) : RvM w w2 b b13 S' n' d :=
  ⟨t, h.2.1.upd u (by have := h.2.2.2.2; omega), UpdS.new h.2.2.1 u (fun i hi => by have := h.2.2.2.1; omega), h.2.2.2.1, h.2.2.2.2⟩

set_option maxRecDepth 16000 in
set_option maxHeartbeats 8000000 in
theorem capsRevoked_walk (v0 : Value) (ls : List Int) (k0 m0 : Int) (w : World) (pp : Nat → Prop) (hl : RdV (Value.int .i64) 0 pp w v0 ls) (hls : ∀ z ∈ ls, (Lit.int .i64 z).wf = true) (hk : (Lit.int .i64 k0).wf = true) (hm : (Lit.int .i64 m0).wf = true) :
    Calls Try.prog 4 #[v0, .int .i64 k0, .int .i64 m0] w fun e w' => e = .returned (.bool true) ∧ Grow w w' := by
  obtain ⟨i0, hi, hz0, hz1, hz2⟩ := info_parts infoC
  have hll := hl.len
  unfold maxLen at hll
  have HR : Hid (RdV (Value.int .i64) 0 pp w v0 ls ∧ ∀ z ∈ ls, (Lit.int .i64 z).wf = true) := ⟨hl, hls⟩
  obtain ⟨a0, c0, rfl⟩ := hl.shape
  clear hl hls
  have h1 := new_in 3 w (by omega) (by omega)
  obtain ⟨b, hb⟩ : ∃ b, b = w.heap.size := ⟨_, rfl⟩
  have HB : Hid (b = w.heap.size) := hb
  rw [← hb] at h1
  clear hb
  have HP0 := hid (LwP.new (k := 3) (by omega) (by omega))
  have HA21 := hid (fun u => around_any m0 21 u hm (by omega) (by omega))
  have hbd := around_bd m0 21 (by omega)
  generalize around m0 21 = n0 at HA21 hbd
  obtain ⟨M, rfl⟩ := Int.eq_ofNat_of_zero_le hbd.1
  have HN : Hid (M ≤ 20) := by show M ≤ 20; omega
  have HK := hid hk
  clear hbd hk hm
  go_enter Try.func4, Try.ntmps4
  go_wp2_with fail
  refine h1.mono ?_
  rintro e w1 ⟨rfl, t1, g1⟩
  have HM : Hid (LwM w w1 b (newS 3) 3 1 (.slice none 0 0) []) := ⟨t1, OwnS.nil _ _ _ _ _, g1, by have := HB.out; omega⟩
  clear h1 t1 g1
  go_wp2
  go_loopg [9, 10] ls.length (fun m v i wr => ∃ (j : Nat) (S : List Sl) (L : List Cp), m = ls.length - j ∧ j ≤ ls.length ∧ j ≤ 7 ∧ i = .int .i64 j ∧ Hid (L.length = j ∧ LwP S 3 ((L.length : Int) + 1) L ∧ LwM w wr b S 3 ((L.length : Int) + 1) v L))
  case atStart => exact ⟨0, newS 3, [], rfl, Nat.zero_le _, Nat.zero_le _, rfl, rfl, HP0.out, HM.out⟩
  case round =>
    clear HM HP0
    obtain ⟨j, S, L, hk, hj, hj7, rfl, HX⟩ := hrel
    by_cases hgo : j < ls.length ∧ j < 7
    · obtain ⟨hlt, h7⟩ := hgo
      have hlt' : (j : Int) < (ls.length : Int) := by omega
      have h7' : (j : Int) < 7 := by omega
      have HJ : Hid (j < ls.length ∧ j < 7 ∧ gk = ls.length - j) := ⟨hlt, h7, hk⟩
      obtain ⟨av, cv, hsh⟩ := HX.out.2.2.2.1.shape
      subst hsh
      obtain ⟨bb, oo, e1, -, hc⟩ := HR.out.1.addr (by omega)
      subst e1
      have f1 := hc j hlt
      have hwf : (Lit.int .i64 (ls.getD j 0)).wf = true := HR.out.2 _ (by
        have : ls.getD j 0 = ls[j] := by simp [List.getD, List.getElem?_eq_getElem hlt]
        rw [this]; exact List.getElem_mem hlt)
      generalize ls.getD j 0 = z at f1 hwf
      have har := fun u => around_any z 16 u hwf (by omega) (by omega)
      have hbd := around_bd z 16 (by omega)
      generalize around z 16 = s0 at har hbd
      obtain ⟨s, rfl⟩ := Int.eq_ofNat_of_zero_le hbd.1
      have hs : s < 16 := by omega
      have HLj : Hid (L.length = j) := HX.out.1
      have fx : ∀ w', UpdS (fun i => i = b ∨ wr.heap.size ≤ i) wr.drew w' → w'.cell? ⟨bb, oo + j, none⟩ = some (.int .i64 z) := fun w' hu =>
        arg_cell (grow_cell (HX.out.2.2.2.2.1.drew) f1) (World.block_lt_of_cell? _ _ f1) HX.out.2.2.2.2.2 HX.out.2.2.2.2.1.size hu
      have hlt8 := HX.out.2.1.lt (by rw [HX.out.1]; exact h7)
      have KR := hid (fun u hu => rootR_any b S 3 _ u hu HX.out.2.1.1.1)
      have KM := hid (fun u hu => mintR_any b S 3 _ s u hu HX.out.2.1.1 hlt8.1 hlt8.2 hs)
      have HN2 := hid (HX.out.2.1.mint (by rw [HX.out.1]; exact h7) hs)
      have HX0 := hid HX.out.2.2
      simp only [show (3 : Int) * 1048576 = 3145728 from rfl] at KR KM HN2
      generalize hnn : ((L.length : Int) + 1) = nn at KR KM HN2 HX0
      generalize hn' : nn + 1 = n' at KM HN2
      have HNN : Hid (n' = (L.length : Int) + 1 + 1) := by show n' = _; rw [← hn', ← hnn]
      generalize hgg : (3145728 : Int) + nn = gg at KM HN2
      generalize hmm : roomN S = m at KM HN2
      generalize minted S 3 nn s = S' at KM HN2
      clear hnn hn' hgg hmm hlt8 hk hj hlt h7 hbd hs hwf hc f1 hj7 HX
      go_upto_region 8 with fail
      go_cut [11, 12] from 27 to 54 (fun pv ev wx => ∃ b11 : Nat, pv = .pointer (some ⟨b11, 0, none⟩) ∧ ev = .int .i64 0 ∧ Hid (VarAt wx b11 [.int .i64 m, .int .i64 gg] ∧ LwM w wx b S' 3 n' (.slice av L.length cv) L))
      case first =>
        obtain ⟨N, hN⟩ : ∃ N, N = wr.heap.size := ⟨_, rfl⟩
        have HQ := hid (HX0.out.q)
        rw [← hN] at HQ
        have fx2 := fun w' (hu : UpdS (fun i => i = b ∨ N ≤ i) wr.drew w') => fx w' (by rw [hN] at hu; exact hu)
        clear hN
        refine wp_region_treeG (UpdS (fun i => i = b ∨ N ≤ i)) (UpdS.refl _) (fun _ _ _ => UpdS.trans) (by kernel_rfl) (.read 0 (.read 1 (.read 3 (.read 4 (.read 5 (.read 6 (.fork 2 (.fork 7 (.fork 8 (.read 9 (.read 10 (.read 11 (.act 12 (.act 13 (.read 14 .done)))))) 12 (.act 8 (.read 9 (.read 10 (.read 11 (.act 13 (.read 14 .done))))))) 12 (.act 7 (.act 8 (.read 9 (.read 10 (.read 11 (.act 13 (.read 14 .done)))))))) 12 (.act 2 (.act 7 (.act 8 (.read 9 (.read 10 (.read 11 (.act 13 (.read 14 .done))))))))))))))) (by kernel_rfl) (by kernel_rfl) rfl (fun _ _ d _ _ h => by cases d <;> exact h) ?_
        simp only [Tr.over, List.getElem?_toArray, List.getElem?_cons_zero, List.getElem?_cons_succ]
        repeat (first
          | (refine wpT_move rfl ?_; simp only [Act.eval, Act.put, Array.getD_eq_getD_getElem?, List.getElem?_toArray, List.getElem?_cons_zero, List.getElem?_cons_succ, Option.getD_some, List.setIfInBounds_toArray, List.set_cons_zero, List.set_cons_succ])
          | (refine wpT_assign rfl ?_; simp only [Act.eval, Act.put, Array.getD_eq_getD_getElem?, List.getElem?_toArray, List.getElem?_cons_zero, List.getElem?_cons_succ, Option.getD_some, List.setIfInBounds_toArray, List.set_cons_zero, List.set_cons_succ])
          | (refine wpT_read (v := ?_) rfl ?_ ?_; rotate_left; (focus (intro w' hG; have fz := fx2 w' hG; go_simp; try (with_reducible rfl))); simp only [Act.put, List.setIfInBounds_toArray, List.set_cons_zero, List.set_cons_succ])
          | (refine wpT_skip rfl ?_; simp only [Act.put, List.setIfInBounds_toArray, List.set_cons_zero, List.set_cons_succ]))
        generalize wr.drew = u0 at HQ ⊢
        clear fx2
        refine wpT_fork ?_ ?_
        · skip
          refine wpT_call (f := ?_) (args := ?_) (by rfl) ?_ ?_
          rotate_left 2; focus (go_simp; constructor <;> with_reducible rfl)
          refine ((KR.out _ HQ.out.1)).mono ?_
          rintro e x1 ⟨rfl, gz⟩
          refine ⟨_, rfl, gz.s, ?_⟩
          simp only [Act.put, List.setIfInBounds_toArray, List.set_cons_zero, List.set_cons_succ]
          replace HQ := hid (HQ.out.grow gz)
          clear gz
          repeat (first
            | (refine wpT_move rfl ?_; simp only [Act.eval, Act.put, Array.getD_eq_getD_getElem?, List.getElem?_toArray, List.getElem?_cons_zero, List.getElem?_cons_succ, Option.getD_some, List.setIfInBounds_toArray, List.set_cons_zero, List.set_cons_succ])
            | (refine wpT_assign rfl ?_; simp only [Act.eval, Act.put, Array.getD_eq_getD_getElem?, List.getElem?_toArray, List.getElem?_cons_zero, List.getElem?_cons_succ, Option.getD_some, List.setIfInBounds_toArray, List.set_cons_zero, List.set_cons_succ])
            | (refine wpT_read (v := ?_) rfl ?_ ?_; rotate_left; (focus (intro w' hG; skip; go_simp; try (with_reducible rfl))); simp only [Act.put, List.setIfInBounds_toArray, List.set_cons_zero, List.set_cons_succ])
            | (refine wpT_skip rfl ?_; simp only [Act.put, List.setIfInBounds_toArray, List.set_cons_zero, List.set_cons_succ]))
          refine wpT_fork ?_ ?_
          · skip
            refine wpT_call (f := ?_) (args := ?_) (by rfl) ?_ ?_
            rotate_left 2; focus (go_simp; constructor <;> with_reducible rfl)
            refine ((har _)).mono ?_
            rintro e x2 ⟨rfl, rfl⟩
            refine ⟨_, rfl, UpdS.refl _ _, ?_⟩
            simp only [Act.put, List.setIfInBounds_toArray, List.set_cons_zero, List.set_cons_succ]
            repeat (first
              | (refine wpT_move rfl ?_; simp only [Act.eval, Act.put, Array.getD_eq_getD_getElem?, List.getElem?_toArray, List.getElem?_cons_zero, List.getElem?_cons_succ, Option.getD_some, List.setIfInBounds_toArray, List.set_cons_zero, List.set_cons_succ])
              | (refine wpT_assign rfl ?_; simp only [Act.eval, Act.put, Array.getD_eq_getD_getElem?, List.getElem?_toArray, List.getElem?_cons_zero, List.getElem?_cons_succ, Option.getD_some, List.setIfInBounds_toArray, List.set_cons_zero, List.set_cons_succ])
              | (refine wpT_read (v := ?_) rfl ?_ ?_; rotate_left; (focus (intro w' hG; skip; go_simp; try (with_reducible rfl))); simp only [Act.put, List.setIfInBounds_toArray, List.set_cons_zero, List.set_cons_succ])
              | (refine wpT_skip rfl ?_; simp only [Act.put, List.setIfInBounds_toArray, List.set_cons_zero, List.set_cons_succ]))
            refine wpT_fork ?_ ?_
            · skip
              refine wpT_call (f := ?_) (args := ?_) (by rfl) ?_ ?_
              rotate_left 2; focus (go_simp; constructor <;> with_reducible rfl)
              refine ((KM.out _ HQ.out.1)).mono ?_
              rintro e x3 ⟨rfl, tz, uz⟩
              refine ⟨_, rfl, uz.mono (fun i hi => .inl hi), ?_⟩
              simp only [Act.put, List.setIfInBounds_toArray, List.set_cons_zero, List.set_cons_succ]
              replace HQ := hid (HQ.out.turn tz uz)
              clear tz uz
              repeat (first
                | (refine wpT_move rfl ?_; simp only [Act.eval, Act.put, Array.getD_eq_getD_getElem?, List.getElem?_toArray, List.getElem?_cons_zero, List.getElem?_cons_succ, Option.getD_some, List.setIfInBounds_toArray, List.set_cons_zero, List.set_cons_succ])
                | (refine wpT_assign rfl ?_; simp only [Act.eval, Act.put, Array.getD_eq_getD_getElem?, List.getElem?_toArray, List.getElem?_cons_zero, List.getElem?_cons_succ, Option.getD_some, List.setIfInBounds_toArray, List.set_cons_zero, List.set_cons_succ])
                | (refine wpT_read (v := ?_) rfl ?_ ?_; rotate_left; (focus (intro w' hG; skip; go_simp; try (with_reducible rfl))); simp only [Act.put, List.setIfInBounds_toArray, List.set_cons_zero, List.set_cons_succ])
                | (refine wpT_skip rfl ?_; simp only [Act.put, List.setIfInBounds_toArray, List.set_cons_zero, List.set_cons_succ]))
              refine wpT_act (by rfl) (exec_allocC #[.int .i64 0, .int .i64 0] zeroC) (Grow.s ((Grow.refl _).alloc _)) ?_
              simp only [Act.put, List.setIfInBounds_toArray, List.set_cons_zero, List.set_cons_succ]
              have HV : Hid (VarAt (x3.alloc (.cells #[.int .i64 0, .int .i64 0] 33)) x3.heap.size [.int .i64 0, .int .i64 0] ∧ N ≤ x3.heap.size) := ⟨VarAt.new x3 [.int .i64 0, .int .i64 0] 33, HQ.out.2.2.2.2.2⟩
              replace HQ := hid (HQ.out.grow ((Grow.refl x3).alloc (.cells #[.int .i64 0, .int .i64 0] 33)))
              generalize x3.alloc (.cells #[.int .i64 0, .int .i64 0] 33) = x4 at HV HQ ⊢
              generalize x3.heap.size = b11 at HV ⊢
              repeat (first
                | (refine wpT_move rfl ?_; simp only [Act.eval, Act.put, Array.getD_eq_getD_getElem?, List.getElem?_toArray, List.getElem?_cons_zero, List.getElem?_cons_succ, Option.getD_some, List.setIfInBounds_toArray, List.set_cons_zero, List.set_cons_succ])
                | (refine wpT_assign rfl ?_; simp only [Act.eval, Act.put, Array.getD_eq_getD_getElem?, List.getElem?_toArray, List.getElem?_cons_zero, List.getElem?_cons_succ, Option.getD_some, List.setIfInBounds_toArray, List.set_cons_zero, List.set_cons_succ])
                | (refine wpT_read (v := ?_) rfl ?_ ?_; rotate_left; (focus (intro w' hG; skip; go_simp; try (with_reducible rfl))); simp only [Act.put, List.setIfInBounds_toArray, List.set_cons_zero, List.set_cons_succ])
                | (refine wpT_skip rfl ?_; simp only [Act.put, List.setIfInBounds_toArray, List.set_cons_zero, List.set_cons_succ]))
              obtain ⟨⟨v0, v1⟩, v3, v4⟩ := HV.out.1.two
              have hU := upd_pair x4 b11 (.int .i64 m) (.int .i64 gg)
              have HF : Hid (VarAt ((x4.setCell ⟨b11, 0, none⟩ (.int .i64 m)).setCell ⟨b11, 1, none⟩ (.int .i64 gg)) b11 [.int .i64 m, .int .i64 gg] ∧ LwM w ((x4.setCell ⟨b11, 0, none⟩ (.int .i64 m)).setCell ⟨b11, 1, none⟩ (.int .i64 gg)) b S' 3 n' (.slice av L.length cv) L) := ⟨HV.out.1.set2 _ _, (HQ.out.put HV.out.2 hU).m⟩
              refine wpT_store (w' := (x4.setCell ⟨b11, 0, none⟩ (.int .i64 m)).setCell ⟨b11, 1, none⟩ (.int .i64 gg)) (by rfl) ?_ ?_ ?_
              · go_simp
              · exact hU.mono (fun i hi => .inr (by have := HV.out.2; omega))
              simp only [Act.put, List.setIfInBounds_toArray, List.set_cons_zero, List.set_cons_succ]
              clear hU v0 v1 v3 v4 HQ HV
              generalize (x4.setCell ⟨b11, 0, none⟩ (.int .i64 m)).setCell ⟨b11, 1, none⟩ (.int .i64 gg) = wz at HF ⊢
              repeat (first
                | (refine wpT_move rfl ?_; simp only [Act.eval, Act.put, Array.getD_eq_getD_getElem?, List.getElem?_toArray, List.getElem?_cons_zero, List.getElem?_cons_succ, Option.getD_some, List.setIfInBounds_toArray, List.set_cons_zero, List.set_cons_succ])
                | (refine wpT_assign rfl ?_; simp only [Act.eval, Act.put, Array.getD_eq_getD_getElem?, List.getElem?_toArray, List.getElem?_cons_zero, List.getElem?_cons_succ, Option.getD_some, List.setIfInBounds_toArray, List.set_cons_zero, List.set_cons_succ])
                | (refine wpT_read (v := ?_) rfl ?_ ?_; rotate_left; (focus (intro w' hG; skip; go_simp; try (with_reducible rfl))); simp only [Act.put, List.setIfInBounds_toArray, List.set_cons_zero, List.set_cons_succ])
                | (refine wpT_skip rfl ?_; simp only [Act.put, List.setIfInBounds_toArray, List.set_cons_zero, List.set_cons_succ]))
              refine wpT_done ?_
              go_wp2_with fail
              go_meet
              exact ⟨b11, rfl, rfl, HF⟩
            · skip
              refine wpT_act (by rfl) (exec_allocC #[.int .i64 0, .int .i64 0] zeroC) (Grow.s ((Grow.refl _).alloc _)) ?_
              simp only [Act.put, List.setIfInBounds_toArray, List.set_cons_zero, List.set_cons_succ]
              have HV : Hid (VarAt (x1.alloc (.cells #[.int .i64 0, .int .i64 0] 33)) x1.heap.size [.int .i64 0, .int .i64 0] ∧ N ≤ x1.heap.size) := ⟨VarAt.new x1 [.int .i64 0, .int .i64 0] 33, HQ.out.2.2.2.2.2⟩
              replace HQ := hid (HQ.out.grow ((Grow.refl x1).alloc (.cells #[.int .i64 0, .int .i64 0] 33)))
              generalize x1.alloc (.cells #[.int .i64 0, .int .i64 0] 33) = x5 at HV HQ ⊢
              generalize x1.heap.size = b11 at HV ⊢
              repeat (first
                | (refine wpT_move rfl ?_; simp only [Act.eval, Act.put, Array.getD_eq_getD_getElem?, List.getElem?_toArray, List.getElem?_cons_zero, List.getElem?_cons_succ, Option.getD_some, List.setIfInBounds_toArray, List.set_cons_zero, List.set_cons_succ])
                | (refine wpT_assign rfl ?_; simp only [Act.eval, Act.put, Array.getD_eq_getD_getElem?, List.getElem?_toArray, List.getElem?_cons_zero, List.getElem?_cons_succ, Option.getD_some, List.setIfInBounds_toArray, List.set_cons_zero, List.set_cons_succ])
                | (refine wpT_read (v := ?_) rfl ?_ ?_; rotate_left; (focus (intro w' hG; skip; go_simp; try (with_reducible rfl))); simp only [Act.put, List.setIfInBounds_toArray, List.set_cons_zero, List.set_cons_succ])
                | (refine wpT_skip rfl ?_; simp only [Act.put, List.setIfInBounds_toArray, List.set_cons_zero, List.set_cons_succ]))
              refine wpT_call (f := ?_) (args := ?_) (by rfl) ?_ ?_
              rotate_left 2; focus (go_simp; constructor <;> with_reducible rfl)
              refine ((KM.out _ HQ.out.1)).mono ?_
              rintro e x6 ⟨rfl, tz, uz⟩
              refine ⟨_, rfl, uz.mono (fun i hi => .inl hi), ?_⟩
              simp only [Act.put, List.setIfInBounds_toArray, List.set_cons_zero, List.set_cons_succ]
              replace HV := hid (And.intro (HV.out.1.upd uz (by have := HQ.out.2.2.2.2.1; have := HV.out.2; omega)) HV.out.2)
              replace HQ := hid (HQ.out.turn tz uz)
              clear tz uz
              repeat (first
                | (refine wpT_move rfl ?_; simp only [Act.eval, Act.put, Array.getD_eq_getD_getElem?, List.getElem?_toArray, List.getElem?_cons_zero, List.getElem?_cons_succ, Option.getD_some, List.setIfInBounds_toArray, List.set_cons_zero, List.set_cons_succ])
                | (refine wpT_assign rfl ?_; simp only [Act.eval, Act.put, Array.getD_eq_getD_getElem?, List.getElem?_toArray, List.getElem?_cons_zero, List.getElem?_cons_succ, Option.getD_some, List.setIfInBounds_toArray, List.set_cons_zero, List.set_cons_succ])
                | (refine wpT_read (v := ?_) rfl ?_ ?_; rotate_left; (focus (intro w' hG; skip; go_simp; try (with_reducible rfl))); simp only [Act.put, List.setIfInBounds_toArray, List.set_cons_zero, List.set_cons_succ])
                | (refine wpT_skip rfl ?_; simp only [Act.put, List.setIfInBounds_toArray, List.set_cons_zero, List.set_cons_succ]))
              obtain ⟨⟨v0, v1⟩, v3, v4⟩ := HV.out.1.two
              have hU := upd_pair x6 b11 (.int .i64 m) (.int .i64 gg)
              have HF : Hid (VarAt ((x6.setCell ⟨b11, 0, none⟩ (.int .i64 m)).setCell ⟨b11, 1, none⟩ (.int .i64 gg)) b11 [.int .i64 m, .int .i64 gg] ∧ LwM w ((x6.setCell ⟨b11, 0, none⟩ (.int .i64 m)).setCell ⟨b11, 1, none⟩ (.int .i64 gg)) b S' 3 n' (.slice av L.length cv) L) := ⟨HV.out.1.set2 _ _, (HQ.out.put HV.out.2 hU).m⟩
              refine wpT_store (w' := (x6.setCell ⟨b11, 0, none⟩ (.int .i64 m)).setCell ⟨b11, 1, none⟩ (.int .i64 gg)) (by rfl) ?_ ?_ ?_
              · go_simp
              · exact hU.mono (fun i hi => .inr (by have := HV.out.2; omega))
              simp only [Act.put, List.setIfInBounds_toArray, List.set_cons_zero, List.set_cons_succ]
              clear hU v0 v1 v3 v4 HQ HV
              generalize (x6.setCell ⟨b11, 0, none⟩ (.int .i64 m)).setCell ⟨b11, 1, none⟩ (.int .i64 gg) = wz at HF ⊢
              repeat (first
                | (refine wpT_move rfl ?_; simp only [Act.eval, Act.put, Array.getD_eq_getD_getElem?, List.getElem?_toArray, List.getElem?_cons_zero, List.getElem?_cons_succ, Option.getD_some, List.setIfInBounds_toArray, List.set_cons_zero, List.set_cons_succ])
                | (refine wpT_assign rfl ?_; simp only [Act.eval, Act.put, Array.getD_eq_getD_getElem?, List.getElem?_toArray, List.getElem?_cons_zero, List.getElem?_cons_succ, Option.getD_some, List.setIfInBounds_toArray, List.set_cons_zero, List.set_cons_succ])
                | (refine wpT_read (v := ?_) rfl ?_ ?_; rotate_left; (focus (intro w' hG; skip; go_simp; try (with_reducible rfl))); simp only [Act.put, List.setIfInBounds_toArray, List.set_cons_zero, List.set_cons_succ])
                | (refine wpT_skip rfl ?_; simp only [Act.put, List.setIfInBounds_toArray, List.set_cons_zero, List.set_cons_succ]))
              refine wpT_done ?_
              go_wp2_with fail
              go_meet
              exact ⟨b11, rfl, rfl, HF⟩
          · skip
            refine wpT_act (by rfl) (exec_allocC #[.int .i64 0, .int .i64 0] zeroC) (Grow.s ((Grow.refl _).alloc _)) ?_
            simp only [Act.put, List.setIfInBounds_toArray, List.set_cons_zero, List.set_cons_succ]
            have HV : Hid (VarAt (x1.alloc (.cells #[.int .i64 0, .int .i64 0] 33)) x1.heap.size [.int .i64 0, .int .i64 0] ∧ N ≤ x1.heap.size) := ⟨VarAt.new x1 [.int .i64 0, .int .i64 0] 33, HQ.out.2.2.2.2.2⟩
            replace HQ := hid (HQ.out.grow ((Grow.refl x1).alloc (.cells #[.int .i64 0, .int .i64 0] 33)))
            generalize x1.alloc (.cells #[.int .i64 0, .int .i64 0] 33) = x7 at HV HQ ⊢
            generalize x1.heap.size = b11 at HV ⊢
            repeat (first
              | (refine wpT_move rfl ?_; simp only [Act.eval, Act.put, Array.getD_eq_getD_getElem?, List.getElem?_toArray, List.getElem?_cons_zero, List.getElem?_cons_succ, Option.getD_some, List.setIfInBounds_toArray, List.set_cons_zero, List.set_cons_succ])
              | (refine wpT_assign rfl ?_; simp only [Act.eval, Act.put, Array.getD_eq_getD_getElem?, List.getElem?_toArray, List.getElem?_cons_zero, List.getElem?_cons_succ, Option.getD_some, List.setIfInBounds_toArray, List.set_cons_zero, List.set_cons_succ])
              | (refine wpT_read (v := ?_) rfl ?_ ?_; rotate_left; (focus (intro w' hG; skip; go_simp; try (with_reducible rfl))); simp only [Act.put, List.setIfInBounds_toArray, List.set_cons_zero, List.set_cons_succ])
              | (refine wpT_skip rfl ?_; simp only [Act.put, List.setIfInBounds_toArray, List.set_cons_zero, List.set_cons_succ]))
            refine wpT_call (f := ?_) (args := ?_) (by rfl) ?_ ?_
            rotate_left 2; focus (go_simp; constructor <;> with_reducible rfl)
            refine ((har _)).mono ?_
            rintro e x8 ⟨rfl, rfl⟩
            refine ⟨_, rfl, UpdS.refl _ _, ?_⟩
            simp only [Act.put, List.setIfInBounds_toArray, List.set_cons_zero, List.set_cons_succ]
            repeat (first
              | (refine wpT_move rfl ?_; simp only [Act.eval, Act.put, Array.getD_eq_getD_getElem?, List.getElem?_toArray, List.getElem?_cons_zero, List.getElem?_cons_succ, Option.getD_some, List.setIfInBounds_toArray, List.set_cons_zero, List.set_cons_succ])
              | (refine wpT_assign rfl ?_; simp only [Act.eval, Act.put, Array.getD_eq_getD_getElem?, List.getElem?_toArray, List.getElem?_cons_zero, List.getElem?_cons_succ, Option.getD_some, List.setIfInBounds_toArray, List.set_cons_zero, List.set_cons_succ])
              | (refine wpT_read (v := ?_) rfl ?_ ?_; rotate_left; (focus (intro w' hG; skip; go_simp; try (with_reducible rfl))); simp only [Act.put, List.setIfInBounds_toArray, List.set_cons_zero, List.set_cons_succ])
              | (refine wpT_skip rfl ?_; simp only [Act.put, List.setIfInBounds_toArray, List.set_cons_zero, List.set_cons_succ]))
            refine wpT_call (f := ?_) (args := ?_) (by rfl) ?_ ?_
            rotate_left 2; focus (go_simp; constructor <;> with_reducible rfl)
            refine ((KM.out _ HQ.out.1)).mono ?_
            rintro e x9 ⟨rfl, tz, uz⟩
            refine ⟨_, rfl, uz.mono (fun i hi => .inl hi), ?_⟩
            simp only [Act.put, List.setIfInBounds_toArray, List.set_cons_zero, List.set_cons_succ]
            replace HV := hid (And.intro (HV.out.1.upd uz (by have := HQ.out.2.2.2.2.1; have := HV.out.2; omega)) HV.out.2)
            replace HQ := hid (HQ.out.turn tz uz)
            clear tz uz
            repeat (first
              | (refine wpT_move rfl ?_; simp only [Act.eval, Act.put, Array.getD_eq_getD_getElem?, List.getElem?_toArray, List.getElem?_cons_zero, List.getElem?_cons_succ, Option.getD_some, List.setIfInBounds_toArray, List.set_cons_zero, List.set_cons_succ])
              | (refine wpT_assign rfl ?_; simp only [Act.eval, Act.put, Array.getD_eq_getD_getElem?, List.getElem?_toArray, List.getElem?_cons_zero, List.getElem?_cons_succ, Option.getD_some, List.setIfInBounds_toArray, List.set_cons_zero, List.set_cons_succ])
              | (refine wpT_read (v := ?_) rfl ?_ ?_; rotate_left; (focus (intro w' hG; skip; go_simp; try (with_reducible rfl))); simp only [Act.put, List.setIfInBounds_toArray, List.set_cons_zero, List.set_cons_succ])
              | (refine wpT_skip rfl ?_; simp only [Act.put, List.setIfInBounds_toArray, List.set_cons_zero, List.set_cons_succ]))
            obtain ⟨⟨v0, v1⟩, v3, v4⟩ := HV.out.1.two
            have hU := upd_pair x9 b11 (.int .i64 m) (.int .i64 gg)
            have HF : Hid (VarAt ((x9.setCell ⟨b11, 0, none⟩ (.int .i64 m)).setCell ⟨b11, 1, none⟩ (.int .i64 gg)) b11 [.int .i64 m, .int .i64 gg] ∧ LwM w ((x9.setCell ⟨b11, 0, none⟩ (.int .i64 m)).setCell ⟨b11, 1, none⟩ (.int .i64 gg)) b S' 3 n' (.slice av L.length cv) L) := ⟨HV.out.1.set2 _ _, (HQ.out.put HV.out.2 hU).m⟩
            refine wpT_store (w' := (x9.setCell ⟨b11, 0, none⟩ (.int .i64 m)).setCell ⟨b11, 1, none⟩ (.int .i64 gg)) (by rfl) ?_ ?_ ?_
            · go_simp
            · exact hU.mono (fun i hi => .inr (by have := HV.out.2; omega))
            simp only [Act.put, List.setIfInBounds_toArray, List.set_cons_zero, List.set_cons_succ]
            clear hU v0 v1 v3 v4 HQ HV
            generalize (x9.setCell ⟨b11, 0, none⟩ (.int .i64 m)).setCell ⟨b11, 1, none⟩ (.int .i64 gg) = wz at HF ⊢
            repeat (first
              | (refine wpT_move rfl ?_; simp only [Act.eval, Act.put, Array.getD_eq_getD_getElem?, List.getElem?_toArray, List.getElem?_cons_zero, List.getElem?_cons_succ, Option.getD_some, List.setIfInBounds_toArray, List.set_cons_zero, List.set_cons_succ])
              | (refine wpT_assign rfl ?_; simp only [Act.eval, Act.put, Array.getD_eq_getD_getElem?, List.getElem?_toArray, List.getElem?_cons_zero, List.getElem?_cons_succ, Option.getD_some, List.setIfInBounds_toArray, List.set_cons_zero, List.set_cons_succ])
              | (refine wpT_read (v := ?_) rfl ?_ ?_; rotate_left; (focus (intro w' hG; skip; go_simp; try (with_reducible rfl))); simp only [Act.put, List.setIfInBounds_toArray, List.set_cons_zero, List.set_cons_succ])
              | (refine wpT_skip rfl ?_; simp only [Act.put, List.setIfInBounds_toArray, List.set_cons_zero, List.set_cons_succ]))
            refine wpT_done ?_
            go_wp2_with fail
            go_meet
            exact ⟨b11, rfl, rfl, HF⟩
        · skip
          refine wpT_act (by rfl) (exec_allocC #[.int .i64 0, .int .i64 0] zeroC) (Grow.s ((Grow.refl _).alloc _)) ?_
          simp only [Act.put, List.setIfInBounds_toArray, List.set_cons_zero, List.set_cons_succ]
          have HV : Hid (VarAt (u0.alloc (.cells #[.int .i64 0, .int .i64 0] 33)) u0.heap.size [.int .i64 0, .int .i64 0] ∧ N ≤ u0.heap.size) := ⟨VarAt.new u0 [.int .i64 0, .int .i64 0] 33, HQ.out.2.2.2.2.2⟩
          replace HQ := hid (HQ.out.grow ((Grow.refl u0).alloc (.cells #[.int .i64 0, .int .i64 0] 33)))
          generalize u0.alloc (.cells #[.int .i64 0, .int .i64 0] 33) = x10 at HV HQ ⊢
          generalize u0.heap.size = b11 at HV ⊢
          repeat (first
            | (refine wpT_move rfl ?_; simp only [Act.eval, Act.put, Array.getD_eq_getD_getElem?, List.getElem?_toArray, List.getElem?_cons_zero, List.getElem?_cons_succ, Option.getD_some, List.setIfInBounds_toArray, List.set_cons_zero, List.set_cons_succ])
            | (refine wpT_assign rfl ?_; simp only [Act.eval, Act.put, Array.getD_eq_getD_getElem?, List.getElem?_toArray, List.getElem?_cons_zero, List.getElem?_cons_succ, Option.getD_some, List.setIfInBounds_toArray, List.set_cons_zero, List.set_cons_succ])
            | (refine wpT_read (v := ?_) rfl ?_ ?_; rotate_left; (focus (intro w' hG; skip; go_simp; try (with_reducible rfl))); simp only [Act.put, List.setIfInBounds_toArray, List.set_cons_zero, List.set_cons_succ])
            | (refine wpT_skip rfl ?_; simp only [Act.put, List.setIfInBounds_toArray, List.set_cons_zero, List.set_cons_succ]))
          refine wpT_call (f := ?_) (args := ?_) (by rfl) ?_ ?_
          rotate_left 2; focus (go_simp; constructor <;> with_reducible rfl)
          refine ((KR.out _ HQ.out.1)).mono ?_
          rintro e x11 ⟨rfl, gz⟩
          refine ⟨_, rfl, gz.s, ?_⟩
          simp only [Act.put, List.setIfInBounds_toArray, List.set_cons_zero, List.set_cons_succ]
          replace HQ := hid (HQ.out.grow gz)
          replace HV := hid (And.intro (HV.out.1.grow gz) HV.out.2)
          clear gz
          repeat (first
            | (refine wpT_move rfl ?_; simp only [Act.eval, Act.put, Array.getD_eq_getD_getElem?, List.getElem?_toArray, List.getElem?_cons_zero, List.getElem?_cons_succ, Option.getD_some, List.setIfInBounds_toArray, List.set_cons_zero, List.set_cons_succ])
            | (refine wpT_assign rfl ?_; simp only [Act.eval, Act.put, Array.getD_eq_getD_getElem?, List.getElem?_toArray, List.getElem?_cons_zero, List.getElem?_cons_succ, Option.getD_some, List.setIfInBounds_toArray, List.set_cons_zero, List.set_cons_succ])
            | (refine wpT_read (v := ?_) rfl ?_ ?_; rotate_left; (focus (intro w' hG; skip; go_simp; try (with_reducible rfl))); simp only [Act.put, List.setIfInBounds_toArray, List.set_cons_zero, List.set_cons_succ])
            | (refine wpT_skip rfl ?_; simp only [Act.put, List.setIfInBounds_toArray, List.set_cons_zero, List.set_cons_succ]))
          refine wpT_call (f := ?_) (args := ?_) (by rfl) ?_ ?_
          rotate_left 2; focus (go_simp; constructor <;> with_reducible rfl)
          refine ((har _)).mono ?_
          rintro e x12 ⟨rfl, rfl⟩
          refine ⟨_, rfl, UpdS.refl _ _, ?_⟩
          simp only [Act.put, List.setIfInBounds_toArray, List.set_cons_zero, List.set_cons_succ]
          repeat (first
            | (refine wpT_move rfl ?_; simp only [Act.eval, Act.put, Array.getD_eq_getD_getElem?, List.getElem?_toArray, List.getElem?_cons_zero, List.getElem?_cons_succ, Option.getD_some, List.setIfInBounds_toArray, List.set_cons_zero, List.set_cons_succ])
            | (refine wpT_assign rfl ?_; simp only [Act.eval, Act.put, Array.getD_eq_getD_getElem?, List.getElem?_toArray, List.getElem?_cons_zero, List.getElem?_cons_succ, Option.getD_some, List.setIfInBounds_toArray, List.set_cons_zero, List.set_cons_succ])
            | (refine wpT_read (v := ?_) rfl ?_ ?_; rotate_left; (focus (intro w' hG; skip; go_simp; try (with_reducible rfl))); simp only [Act.put, List.setIfInBounds_toArray, List.set_cons_zero, List.set_cons_succ])
            | (refine wpT_skip rfl ?_; simp only [Act.put, List.setIfInBounds_toArray, List.set_cons_zero, List.set_cons_succ]))
          refine wpT_call (f := ?_) (args := ?_) (by rfl) ?_ ?_
          rotate_left 2; focus (go_simp; constructor <;> with_reducible rfl)
          refine ((KM.out _ HQ.out.1)).mono ?_
          rintro e x13 ⟨rfl, tz, uz⟩
          refine ⟨_, rfl, uz.mono (fun i hi => .inl hi), ?_⟩
          simp only [Act.put, List.setIfInBounds_toArray, List.set_cons_zero, List.set_cons_succ]
          replace HV := hid (And.intro (HV.out.1.upd uz (by have := HQ.out.2.2.2.2.1; have := HV.out.2; omega)) HV.out.2)
          replace HQ := hid (HQ.out.turn tz uz)
          clear tz uz
          repeat (first
            | (refine wpT_move rfl ?_; simp only [Act.eval, Act.put, Array.getD_eq_getD_getElem?, List.getElem?_toArray, List.getElem?_cons_zero, List.getElem?_cons_succ, Option.getD_some, List.setIfInBounds_toArray, List.set_cons_zero, List.set_cons_succ])
            | (refine wpT_assign rfl ?_; simp only [Act.eval, Act.put, Array.getD_eq_getD_getElem?, List.getElem?_toArray, List.getElem?_cons_zero, List.getElem?_cons_succ, Option.getD_some, List.setIfInBounds_toArray, List.set_cons_zero, List.set_cons_succ])
            | (refine wpT_read (v := ?_) rfl ?_ ?_; rotate_left; (focus (intro w' hG; skip; go_simp; try (with_reducible rfl))); simp only [Act.put, List.setIfInBounds_toArray, List.set_cons_zero, List.set_cons_succ])
            | (refine wpT_skip rfl ?_; simp only [Act.put, List.setIfInBounds_toArray, List.set_cons_zero, List.set_cons_succ]))
          obtain ⟨⟨v0, v1⟩, v3, v4⟩ := HV.out.1.two
          have hU := upd_pair x13 b11 (.int .i64 m) (.int .i64 gg)
          have HF : Hid (VarAt ((x13.setCell ⟨b11, 0, none⟩ (.int .i64 m)).setCell ⟨b11, 1, none⟩ (.int .i64 gg)) b11 [.int .i64 m, .int .i64 gg] ∧ LwM w ((x13.setCell ⟨b11, 0, none⟩ (.int .i64 m)).setCell ⟨b11, 1, none⟩ (.int .i64 gg)) b S' 3 n' (.slice av L.length cv) L) := ⟨HV.out.1.set2 _ _, (HQ.out.put HV.out.2 hU).m⟩
          refine wpT_store (w' := (x13.setCell ⟨b11, 0, none⟩ (.int .i64 m)).setCell ⟨b11, 1, none⟩ (.int .i64 gg)) (by rfl) ?_ ?_ ?_
          · go_simp
          · exact hU.mono (fun i hi => .inr (by have := HV.out.2; omega))
          simp only [Act.put, List.setIfInBounds_toArray, List.set_cons_zero, List.set_cons_succ]
          clear hU v0 v1 v3 v4 HQ HV
          generalize (x13.setCell ⟨b11, 0, none⟩ (.int .i64 m)).setCell ⟨b11, 1, none⟩ (.int .i64 gg) = wz at HF ⊢
          repeat (first
            | (refine wpT_move rfl ?_; simp only [Act.eval, Act.put, Array.getD_eq_getD_getElem?, List.getElem?_toArray, List.getElem?_cons_zero, List.getElem?_cons_succ, Option.getD_some, List.setIfInBounds_toArray, List.set_cons_zero, List.set_cons_succ])
            | (refine wpT_assign rfl ?_; simp only [Act.eval, Act.put, Array.getD_eq_getD_getElem?, List.getElem?_toArray, List.getElem?_cons_zero, List.getElem?_cons_succ, Option.getD_some, List.setIfInBounds_toArray, List.set_cons_zero, List.set_cons_succ])
            | (refine wpT_read (v := ?_) rfl ?_ ?_; rotate_left; (focus (intro w' hG; skip; go_simp; try (with_reducible rfl))); simp only [Act.put, List.setIfInBounds_toArray, List.set_cons_zero, List.set_cons_succ])
            | (refine wpT_skip rfl ?_; simp only [Act.put, List.setIfInBounds_toArray, List.set_cons_zero, List.set_cons_succ]))
          refine wpT_done ?_
          go_wp2_with fail
          go_meet
          exact ⟨b11, rfl, rfl, HF⟩
      case rest =>
        obtain ⟨b11, rfl, rfl, H4⟩ := hcut
        obtain ⟨W3, rfl⟩ : ∃ W3, W3 = wc := ⟨_, rfl⟩
        clear fx har KR KM HX0
        have ho := H4.out.2.2.1.grow ((Grow.refl W3).alloc (.cells #[.int .i64 m, .int .i64 gg] 33))
        obtain ⟨⟨n0, n1⟩, -⟩ := H4.out.1.two
        go_wp2_with (at_builtin; refine wpList_appS (f := Cp.cs) (k := 2) rfl (.tmp 51) (.tmp 53) 35 35 rfl cpk (by omega) i0 (.agg #[.int .i64 0, .int .i64 0]) 16 Try.underlying35 hi hz0 hz1 hz2 rfl rfl rfl ho (src_oneC W3 m gg) (by simp only [maxLen, List.length_singleton]; have := HJ.out.2.1; have := HLj.out; omega) (by simp only [List.length_singleton]; have := HJ.out.2.1; have := HLj.out; omega) ?_)
        intro v' w' ho' hu'
        have HF : Hid ((L ++ [(⟨m, gg⟩ : Cp)]).length = j + 1 ∧ LwP S' 3 (((L ++ [(⟨m, gg⟩ : Cp)]).length : Int) + 1) (L ++ [(⟨m, gg⟩ : Cp)]) ∧ LwM w w' b S' 3 (((L ++ [(⟨m, gg⟩ : Cp)]).length : Int) + 1) v' (L ++ [(⟨m, gg⟩ : Cp)])) := by
          have el : (L ++ [(⟨m, gg⟩ : Cp)]).length = L.length + 1 := by rw [List.length_append]; rfl
          have ei : (((L ++ [(⟨m, gg⟩ : Cp)]).length : Nat) : Int) + 1 = n' := by rw [el, HNN.out]; omega
          refine ⟨by rw [el]; have := HLj.out; omega, by rw [ei]; exact HN2.out, by rw [ei]; exact H4.out.2.app ho' hu'⟩
        clear ho' hu' ho n0 n1 H4
        go_wp2
        go_roundg (ls.length - (j + 1))
        case measure => have := HJ.out; omega
        case rel => exact ⟨j + 1, S', L ++ [(⟨m, gg⟩ : Cp)], rfl, HJ.out.1, HJ.out.2.1, by first | rfl | go_num, HF⟩
    · by_cases hlt : j < ls.length
      · have hlt' : (j : Int) < (ls.length : Int) := by omega
        have h7' : ¬ (j : Int) < 7 := by omega
        clear hgo hlt
        have HL7 : Hid (L.length ≤ 7) := by show L.length ≤ 7; rw [HX.out.1]; exact hj7
        obtain ⟨av, cv, hsh⟩ := HX.out.2.2.2.1.shape
        subst hsh
        by_cases hz : L.length = 0
        · have hG : Hid (Grow w wr) := HX.out.2.2.2.2.1
          have e0 : ((L.length : Int) == 0) = true := eqs (by omega)
          clear hz HX hk hj hj7
          generalize L.length = ll at *
          go_wp2_with fail
          refine (lives_any wr).mono ?_
          rintro e w3 ⟨rfl, g3⟩
          go_wp2
          go_ret
          exact ⟨rfl, hG.out.trans g3⟩
        · have hpos : 0 < L.length := by omega
          have e0 : ((L.length : Int) == 0) = false := neqs (by omega)
          have hle7 : L.length ≤ 7 := HL7.out
          have kq := fun u => around_any k0 (L.length : Int) u HK.out (by omega) (by omega)
          have hbq := around_bd k0 (L.length : Int) (by omega)
          generalize around k0 (L.length : Int) = q0 at kq hbq
          obtain ⟨q, rfl⟩ := Int.eq_ofNat_of_zero_le hbq.1
          have hq : q < L.length := by omega
          have hqL : (q : Int) < (L.length : Int) := by omega
          have hg := (HX.out.2.1.2.2.2.1 (L.getD q Cp.zero)).2 (.inr (cp_at hq))
          have hs := HX.out.2.1.2.2.2.2 (L.getD q Cp.zero) (cp_at hq)
          obtain ⟨g0, g8, -, -⟩ := goodB_yes hg
          have hold := (HX.out.2.1.1.1.old hg).1
          obtain ⟨bb, oo, e1, c0, c1⟩ := rdC_at HX.out.2.2.2.1.rd hq
          subst e1
          have HP := hid HX.out.2.1
          have HM := hid HX.out.2.2
          clear HX
          generalize L.getD q Cp.zero = d at hg hs g0 g8 hold c0 c1
          obtain ⟨ds, dg⟩ := d
          simp only at hs g0 g8 hold c0 c1
          obtain ⟨hR2, hl2⟩ := HP.out.1.cut (d := ⟨ds, dg⟩) hs hg
          have K2 := hid (fun u hu => revokeR_yes b S 3 _ ⟨ds, dg⟩ u hu HP.out.1 hg)
          have hcl := good_cleared (S := S) (c := ⟨ds, dg⟩)
          have K3 := hid (fun u hu => revokeR_no b _ 3 _ ⟨ds, dg⟩ u hu hR2 hcl)
          have R1 := hid (fun u hu => rootR_any b S 3 _ u hu HP.out.1.1)
          have R2 := hid (fun u hu => rootR_any b _ 3 _ u hu hR2.1)
          have HPV : Hid (RvP (S.set (⟨ds, dg⟩ : Cp).s.toNat Sl.zero) ((L.length : Int) + 1) L.length ⟨ds, dg⟩) := ⟨hR2, by have := HP.out.2.1; omega, hcl, by show dg < 3145728 + ((L.length : Int) + 1); omega⟩
          simp only [show (3 : Int) * 1048576 = 3145728 from rfl] at K2 K3 R1 R2
          have HNB : Hid (1 ≤ (L.length : Int) + 1 ∧ (L.length : Int) + 1 ≤ 8) := ⟨by omega, by omega⟩
          generalize S.set (⟨ds, dg⟩ : Cp).s.toNat Sl.zero = S2 at K2 K3 R2 HPV
          generalize hnn : ((L.length : Int) + 1) = nn at K2 K3 R1 R2 HM HPV HNB
          clear hg hs g0 g8 hold hR2 hl2 hcl HP hnn hz hk hj hj7 hbq hq hpos hle7
          go_wp2_with fail
          refine (kq wr).mono ?_
          rintro e w2 ⟨rfl, rfl⟩
          clear kq
          obtain ⟨hv4, hm4, hb4⟩ := HM.out.var ds dg
          obtain ⟨b13, hb13⟩ : ∃ b13, b13 = wr.heap.size := ⟨_, rfl⟩
          obtain ⟨W4, hW4⟩ : ∃ W4, W4 = wr.alloc (.cells #[.int .i64 ds, .int .i64 dg] 33) := ⟨_, rfl⟩
          rw [← hW4, ← hb13] at hv4
          rw [← hW4] at hm4
          rw [← hb13] at hb4
          have H4 : Hid (RvM w W4.drew b b13 S nn ⟨ds, dg⟩) := ⟨hm4.1.grow (Grow.refl _).drew, hv4.grow (Grow.refl _).drew, hm4.2.2.1.drew, hm4.2.2.2, hb4⟩
          clear hv4 hm4 hb4 HM
          go_wp2
          rw [← hW4, ← hb13]
          clear hW4 hb13 c0 c1
          refine wp_region_schedG (UpdS (fun i => i = b)) (UpdS.refl _) (fun _ _ _ => UpdS.trans) (by kernel_rfl) [(0, false), (1, false), (3, false), (2, true), (4, true), (5, false), (6, false), (7, false), (8, false), (10, false), (9, true), (11, true), (12, false), (13, false)] (by kernel_rfl) (by kernel_rfl) rfl (fun _ _ d _ _ h => by cases d <;> exact h) ?_
          simp only [inOrder, List.filterMap_cons, List.filterMap_nil, List.getElem?_toArray, List.getElem?_cons_zero, List.getElem?_cons_succ, Option.map_some]
          repeat (first
            | (refine wpS_move rfl ?_; simp only [Act.eval, Act.put, Array.getD_eq_getD_getElem?, List.getElem?_toArray, List.getElem?_cons_zero, List.getElem?_cons_succ, Option.getD_some, List.setIfInBounds_toArray, List.set_cons_zero, List.set_cons_succ])
            | (refine wpS_assign rfl ?_; simp only [Act.eval, Act.put, Array.getD_eq_getD_getElem?, List.getElem?_toArray, List.getElem?_cons_zero, List.getElem?_cons_succ, Option.getD_some, List.setIfInBounds_toArray, List.set_cons_zero, List.set_cons_succ])
            | (refine wpS_read (v := ?_) rfl ?_ ?_; rotate_left; (focus (intro w' hG; obtain ⟨⟨q0, q1⟩, -⟩ := (H4.out.2.1.upd hG (by have := H4.out.2.2.2.2; omega)).two; go_simp; try (with_reducible rfl))); simp only [Act.put, List.setIfInBounds_toArray, List.set_cons_zero, List.set_cons_succ])
            | (refine wpS_skip rfl ?_; simp only [Act.put, List.setIfInBounds_toArray, List.set_cons_zero, List.set_cons_succ]))
          refine wpS_call (f := ?_) (args := ?_) (by rfl) ?_ ?_
          rotate_left 2; focus (go_simp; constructor <;> with_reducible rfl)
          refine ((R1.out _ H4.out.1)).mono ?_
          rintro e w5 ⟨rfl, g5⟩
          refine ⟨_, rfl, g5.s, ?_⟩
          simp only [Act.put, List.setIfInBounds_toArray, List.set_cons_zero, List.set_cons_succ]
          have H5 := hid (H4.out.grow g5)
          repeat (first
            | (refine wpS_move rfl ?_; simp only [Act.eval, Act.put, Array.getD_eq_getD_getElem?, List.getElem?_toArray, List.getElem?_cons_zero, List.getElem?_cons_succ, Option.getD_some, List.setIfInBounds_toArray, List.set_cons_zero, List.set_cons_succ])
            | (refine wpS_assign rfl ?_; simp only [Act.eval, Act.put, Array.getD_eq_getD_getElem?, List.getElem?_toArray, List.getElem?_cons_zero, List.getElem?_cons_succ, Option.getD_some, List.setIfInBounds_toArray, List.set_cons_zero, List.set_cons_succ])
            | (refine wpS_read (v := ?_) rfl ?_ ?_; rotate_left; (focus (intro w' hG; go_simp; try (with_reducible rfl))); simp only [Act.put, List.setIfInBounds_toArray, List.set_cons_zero, List.set_cons_succ])
            | (refine wpS_skip rfl ?_; simp only [Act.put, List.setIfInBounds_toArray, List.set_cons_zero, List.set_cons_succ]))
          refine wpS_call (f := ?_) (args := ?_) (by rfl) ?_ ?_
          rotate_left 2; focus (go_simp; constructor <;> with_reducible rfl)
          refine ((K2.out w5 H5.out.1)).mono ?_
          rintro e w6 ⟨rfl, t6, u6⟩
          refine ⟨_, rfl, u6, ?_⟩
          simp only [Act.put, List.setIfInBounds_toArray, List.set_cons_zero, List.set_cons_succ]
          have H6 := hid (H5.out.turn t6 u6)
          clear t6 u6 g5 H4 H5 K2 R1
          repeat (first
            | (refine wpS_move rfl ?_; simp only [Act.eval, Act.put, Array.getD_eq_getD_getElem?, List.getElem?_toArray, List.getElem?_cons_zero, List.getElem?_cons_succ, Option.getD_some, List.setIfInBounds_toArray, List.set_cons_zero, List.set_cons_succ])
            | (refine wpS_assign rfl ?_; simp only [Act.eval, Act.put, Array.getD_eq_getD_getElem?, List.getElem?_toArray, List.getElem?_cons_zero, List.getElem?_cons_succ, Option.getD_some, List.setIfInBounds_toArray, List.set_cons_zero, List.set_cons_succ])
            | (refine wpS_read (v := ?_) rfl ?_ ?_; rotate_left; (focus (intro w' hG; obtain ⟨⟨q0, q1⟩, -⟩ := (H6.out.2.1.upd hG (by have := H6.out.2.2.2.2; omega)).two; go_simp; try (with_reducible rfl))); simp only [Act.put, List.setIfInBounds_toArray, List.set_cons_zero, List.set_cons_succ])
            | (refine wpS_skip rfl ?_; simp only [Act.put, List.setIfInBounds_toArray, List.set_cons_zero, List.set_cons_succ]))
          refine wpS_call (f := ?_) (args := ?_) (by rfl) ?_ ?_
          rotate_left 2; focus (go_simp; constructor <;> with_reducible rfl)
          refine ((R2.out w6 H6.out.1)).mono ?_
          rintro e w7 ⟨rfl, g7⟩
          refine ⟨_, rfl, g7.s, ?_⟩
          simp only [Act.put, List.setIfInBounds_toArray, List.set_cons_zero, List.set_cons_succ]
          have H7 := hid (H6.out.grow g7)
          repeat (first
            | (refine wpS_move rfl ?_; simp only [Act.eval, Act.put, Array.getD_eq_getD_getElem?, List.getElem?_toArray, List.getElem?_cons_zero, List.getElem?_cons_succ, Option.getD_some, List.setIfInBounds_toArray, List.set_cons_zero, List.set_cons_succ])
            | (refine wpS_assign rfl ?_; simp only [Act.eval, Act.put, Array.getD_eq_getD_getElem?, List.getElem?_toArray, List.getElem?_cons_zero, List.getElem?_cons_succ, Option.getD_some, List.setIfInBounds_toArray, List.set_cons_zero, List.set_cons_succ])
            | (refine wpS_read (v := ?_) rfl ?_ ?_; rotate_left; (focus (intro w' hG; go_simp; try (with_reducible rfl))); simp only [Act.put, List.setIfInBounds_toArray, List.set_cons_zero, List.set_cons_succ])
            | (refine wpS_skip rfl ?_; simp only [Act.put, List.setIfInBounds_toArray, List.set_cons_zero, List.set_cons_succ]))
          refine wpS_call (f := ?_) (args := ?_) (by rfl) ?_ ?_
          rotate_left 2; focus (go_simp; constructor <;> with_reducible rfl)
          refine ((K3.out w7 H7.out.1)).mono ?_
          rintro e w8 ⟨rfl, g8⟩
          refine ⟨_, rfl, g8.s, ?_⟩
          simp only [Act.put, List.setIfInBounds_toArray, List.set_cons_zero, List.set_cons_succ]
          have H8 := hid (H7.out.grow g8)
          clear g7 g8 H6 H7 K3 R2
          repeat (first
            | (refine wpS_move rfl ?_; simp only [Act.eval, Act.put, Array.getD_eq_getD_getElem?, List.getElem?_toArray, List.getElem?_cons_zero, List.getElem?_cons_succ, Option.getD_some, List.setIfInBounds_toArray, List.set_cons_zero, List.set_cons_succ])
            | (refine wpS_assign rfl ?_; simp only [Act.eval, Act.put, Array.getD_eq_getD_getElem?, List.getElem?_toArray, List.getElem?_cons_zero, List.getElem?_cons_succ, Option.getD_some, List.setIfInBounds_toArray, List.set_cons_zero, List.set_cons_succ])
            | (refine wpS_read (v := ?_) rfl ?_ ?_; rotate_left; (focus (intro w' hG; go_simp; try (with_reducible rfl))); simp only [Act.put, List.setIfInBounds_toArray, List.set_cons_zero, List.set_cons_succ])
            | (refine wpS_skip rfl ?_; simp only [Act.put, List.setIfInBounds_toArray, List.set_cons_zero, List.set_cons_succ]))
          refine wpS_nil ?_
          go_wp2_with fail
          refine (HA21.out w8).mono ?_
          rintro e w9 ⟨rfl, rfl⟩
          go_wp2
          go_loopg [14] M (fun k i wx => ∃ (j1 : Nat) (S1 : List Sl) (n1 : Int), k = j1 ∧ j1 ≤ M ∧ i = .int .i64 j1 ∧ Hid ((1 ≤ n1 ∧ n1 + (j1 : Int) ≤ 28) ∧ RvP S1 n1 L.length ⟨ds, dg⟩ ∧ RvM w wx b b13 S1 n1 ⟨ds, dg⟩))
          case atStart => exact ⟨M, S2, nn, rfl, Nat.le_refl _, rfl, ⟨HNB.out.1, by have := HNB.out.2; have := HN.out; omega⟩, HPV.out, H8.out⟩
          case round =>
            clear H8 HPV
            obtain ⟨j1, S1, n1, hk1, hj1, rfl, HY⟩ := hrel
            obtain ⟨wa, rfl⟩ : ∃ wa, wa = wr := ⟨_, rfl⟩
            by_cases hlt1 : 0 < j1
            · have hlt1' : (0 : Int) < (j1 : Int) := by omega
              have HJ1 : Hid (0 < j1 ∧ gk = j1 ∧ j1 ≤ M) := ⟨hlt1, hk1, hj1⟩
              clear hlt1 hk1 hj1
              -- the round: one minted, looked at, revoked
              obtain ⟨hR1, hG1, hD1, hP1⟩ := HY.out.2.1.step (c := L.length) (by have := HL7.out; omega) (by have := HY.out.1; omega)
              have KR := hid (fun u hu => rootR_any b S1 3 n1 u hu HY.out.2.1.1.1)
              have KM : Hid (∀ u, TbAt u b S1 3 n1 → Calls Try.prog 21 #[.pointer (some ⟨b, 0, none⟩), .agg #[.int .i64 0, .int .i64 3145728], .int .i64 15] u fun e w' => e = .returned (.tuple #[.agg #[.int .i64 (roomN S1), .int .i64 (3145728 + n1)], .int .i64 0]) ∧ TbAt w' b (minted S1 3 n1 15) 3 (n1 + 1) ∧ UpdS (fun x => x = b) u w') := fun u hu => mintR_any b S1 3 n1 15 u hu HY.out.2.1.1 (by rw [HY.out.2.1.2.1]; have := HL7.out; omega) (by have := HY.out.1; omega) (by omega)
              have KC := hid (fun u hu => checkR_no b (minted S1 3 n1 15) 3 (n1 + 1) ⟨ds, dg⟩ u hu hR1.1 hD1)
              have KR2 := hid (fun u hu => rootR_any b (minted S1 3 n1 15) 3 (n1 + 1) u hu hR1.1)
              have KV : Hid (∀ u, TbAt u b (minted S1 3 n1 15) 3 (n1 + 1) → Calls Try.prog 15 #[.pointer (some ⟨b, 0, none⟩), .agg #[.int .i64 0, .int .i64 3145728], .agg #[.int .i64 (roomN S1), .int .i64 (3145728 + n1)]] u fun e w' => e = .returned (.int .i64 0) ∧ TbAt w' b ((minted S1 3 n1 15).set (roomN S1) Sl.zero) 3 (n1 + 1) ∧ UpdS (fun x => x = b) u w') := fun u hu => revokeR_yes b _ 3 (n1 + 1) ⟨roomN S1, 3145728 + n1⟩ u hu hR1 hG1
              simp only [show (3 : Int) * 1048576 = 3145728 from rfl] at KR KC KR2
              have HP1 := hid hP1
              have hlt3 : ¬ 3145728 + n1 = dg := by have := HY.out.2.1.2.2.2; simp only at this; omega
              have e1 := neqs hlt3
              have HN1 : Hid (1 ≤ n1 + 1 ∧ n1 + 1 + ((j1 : Int) - 1) ≤ 28) := ⟨by have := HY.out.1; omega, by have := HY.out.1; omega⟩
              have HYM := hid HY.out.2.2
              clear hR1 hG1 hD1 hP1 HY
              generalize (3145728 : Int) + n1 = g3 at KM KV e1 hlt3
              generalize hSS : (minted S1 3 n1 15).set (roomN S1) Sl.zero = S5 at KV HP1
              generalize minted S1 3 n1 15 = S4 at KM KC KR2 KV
              generalize roomN S1 = m1 at KM KV
              clear hSS hlt3
              have kr := KR.out wa HYM.out.1
              go_wp2_with fail
              refine kr.mono ?_
              rintro e wb ⟨rfl, gb⟩
              have HB1 := hid (HYM.out.grow gb)
              clear kr gb KR HYM
              go_wp2_with fail
              refine (all_any wb).mono ?_
              rintro e wd ⟨rfl, gd⟩
              have HD1 := hid (HB1.out.grow gd)
              have km := KM.out wd HD1.out.1
              clear gd HB1 KM
              go_wp2_with fail
              refine km.mono ?_
              rintro e we ⟨rfl, te, ue⟩
              have HE1 := hid (HD1.out.turn te ue)
              obtain ⟨b15, hb15⟩ : ∃ b15, b15 = we.heap.size := ⟨_, rfl⟩
              obtain ⟨Wf, hWf⟩ : ∃ Wf, Wf = we.alloc (.cells #[.int .i64 m1, .int .i64 g3] 33) := ⟨_, rfl⟩
              have gf : Grow we Wf := by rw [hWf]; exact (Grow.refl we).alloc _
              have HV15 : Hid (VarAt Wf b15 [.int .i64 m1, .int .i64 g3] ∧ b < b15) := ⟨by rw [hWf, hb15]; exact VarAt.new we [.int .i64 m1, .int .i64 g3] _, by rw [hb15]; exact HE1.out.1.lt⟩
              have HF1 := hid (HE1.out.grow gf)
              clear km te ue gf HD1 HE1
              have HZ := hid (HF1.out.grow (Grow.refl _).drew)
              have HVZ := hid (And.intro (HV15.out.1.grow (Grow.refl _).drew) HV15.out.2)
              have fz : ∀ w', UpdS (fun i => i = b) Wf.drew w' → (w'.cell? ⟨b13, 0, none⟩ = some (.int .i64 ds) ∧ w'.cell? ⟨b13, 1, none⟩ = some (.int .i64 dg)) ∧ (w'.cell? ⟨b15, 0, none⟩ = some (.int .i64 m1) ∧ w'.cell? ⟨b15, 1, none⟩ = some (.int .i64 g3)) := fun w' hu =>
                ⟨(HZ.out.2.1.upd hu (by have := HZ.out.2.2.2.2; omega)).two.1, (HVZ.out.1.upd hu (by have := HVZ.out.2; omega)).two.1⟩
              go_upto_region 21 with fail
              rw [← hWf, ← hb15]
              clear hWf hb15 HF1 HV15
              by_cases hmd : (m1 : Int) = ds
              · have e0 := eqs hmd
                clear hmd
                refine wp_region_schedG (UpdS (fun i => i = b)) (UpdS.refl _) (fun _ _ _ => UpdS.trans) (by kernel_rfl) [(0, false), (1, false), (2, false), (3, false), (4, false), (5, false), (6, false), (7, false), (8, false), (9, false), (10, true), (11, false), (12, false), (13, false), (14, false), (15, false), (17, false), (16, true), (18, true), (19, false), (20, false)] (by kernel_rfl) (by kernel_rfl) rfl (fun _ _ d _ _ h => by cases d <;> exact h) ?_
                simp only [inOrder, List.filterMap_cons, List.filterMap_nil, List.getElem?_toArray, List.getElem?_cons_zero, List.getElem?_cons_succ, Option.map_some]
                repeat (first
                  | (refine wpS_move rfl ?_; simp only [Act.eval, Act.put, Array.getD_eq_getD_getElem?, List.getElem?_toArray, List.getElem?_cons_zero, List.getElem?_cons_succ, Option.getD_some, List.setIfInBounds_toArray, List.set_cons_zero, List.set_cons_succ])
                  | (refine wpS_assign rfl ?_; simp only [Act.eval, Act.put, Array.getD_eq_getD_getElem?, List.getElem?_toArray, List.getElem?_cons_zero, List.getElem?_cons_succ, Option.getD_some, List.setIfInBounds_toArray, List.set_cons_zero, List.set_cons_succ])
                  | (refine wpS_read (v := ?_) rfl ?_ ?_; rotate_left; (focus (intro w' hG; obtain ⟨⟨q0, q1⟩, q2, q3⟩ := fz w' hG; go_simp; try (with_reducible rfl))); simp only [Act.put, List.setIfInBounds_toArray, List.set_cons_zero, List.set_cons_succ])
                  | (refine wpS_skip rfl ?_; simp only [Act.put, List.setIfInBounds_toArray, List.set_cons_zero, List.set_cons_succ]))
                refine wpS_call (f := ?_) (args := ?_) (by rfl) ?_ ?_
                rotate_left 2; focus (go_simp; constructor <;> with_reducible rfl)
                refine ((KC.out _ HZ.out.1)).mono ?_
                rintro e wg ⟨rfl, gg1⟩
                refine ⟨_, rfl, gg1.s, ?_⟩
                simp only [Act.put, List.setIfInBounds_toArray, List.set_cons_zero, List.set_cons_succ]
                have HH := hid (HZ.out.grow gg1)
                have fz2 := fun w' (hu : UpdS (fun i => i = b) wg w') => fz w' (gg1.s.trans hu)
                repeat (first
                  | (refine wpS_move rfl ?_; simp only [Act.eval, Act.put, Array.getD_eq_getD_getElem?, List.getElem?_toArray, List.getElem?_cons_zero, List.getElem?_cons_succ, Option.getD_some, List.setIfInBounds_toArray, List.set_cons_zero, List.set_cons_succ])
                  | (refine wpS_assign rfl ?_; simp only [Act.eval, Act.put, Array.getD_eq_getD_getElem?, List.getElem?_toArray, List.getElem?_cons_zero, List.getElem?_cons_succ, Option.getD_some, List.setIfInBounds_toArray, List.set_cons_zero, List.set_cons_succ])
                  | (refine wpS_read (v := ?_) rfl ?_ ?_; rotate_left; (focus (intro w' hG; obtain ⟨⟨q0, q1⟩, q2, q3⟩ := fz2 w' hG; go_simp; try (with_reducible rfl))); simp only [Act.put, List.setIfInBounds_toArray, List.set_cons_zero, List.set_cons_succ])
                  | (refine wpS_skip rfl ?_; simp only [Act.put, List.setIfInBounds_toArray, List.set_cons_zero, List.set_cons_succ]))
                refine wpS_call (f := ?_) (args := ?_) (by rfl) ?_ ?_
                rotate_left 2; focus (go_simp; constructor <;> with_reducible rfl)
                refine ((KR2.out _ HH.out.1)).mono ?_
                rintro e wh ⟨rfl, gh⟩
                refine ⟨_, rfl, gh.s, ?_⟩
                simp only [Act.put, List.setIfInBounds_toArray, List.set_cons_zero, List.set_cons_succ]
                have HI := hid (HH.out.grow gh)
                repeat (first
                  | (refine wpS_move rfl ?_; simp only [Act.eval, Act.put, Array.getD_eq_getD_getElem?, List.getElem?_toArray, List.getElem?_cons_zero, List.getElem?_cons_succ, Option.getD_some, List.setIfInBounds_toArray, List.set_cons_zero, List.set_cons_succ])
                  | (refine wpS_assign rfl ?_; simp only [Act.eval, Act.put, Array.getD_eq_getD_getElem?, List.getElem?_toArray, List.getElem?_cons_zero, List.getElem?_cons_succ, Option.getD_some, List.setIfInBounds_toArray, List.set_cons_zero, List.set_cons_succ])
                  | (refine wpS_read (v := ?_) rfl ?_ ?_; rotate_left; (focus (intro w' hG; go_simp; try (with_reducible rfl))); simp only [Act.put, List.setIfInBounds_toArray, List.set_cons_zero, List.set_cons_succ])
                  | (refine wpS_skip rfl ?_; simp only [Act.put, List.setIfInBounds_toArray, List.set_cons_zero, List.set_cons_succ]))
                refine wpS_call (f := ?_) (args := ?_) (by rfl) ?_ ?_
                rotate_left 2; focus (go_simp; constructor <;> with_reducible rfl)
                refine ((KV.out _ HI.out.1)).mono ?_
                rintro e wi ⟨rfl, ti, ui⟩
                refine ⟨_, rfl, ui, ?_⟩
                simp only [Act.put, List.setIfInBounds_toArray, List.set_cons_zero, List.set_cons_succ]
                have HF2 := hid (HI.out.turn ti ui)
                clear fz fz2 gg1 gh ti ui HH HI HZ HVZ KC KR2 KV
                repeat (first
                  | (refine wpS_move rfl ?_; simp only [Act.eval, Act.put, Array.getD_eq_getD_getElem?, List.getElem?_toArray, List.getElem?_cons_zero, List.getElem?_cons_succ, Option.getD_some, List.setIfInBounds_toArray, List.set_cons_zero, List.set_cons_succ])
                  | (refine wpS_assign rfl ?_; simp only [Act.eval, Act.put, Array.getD_eq_getD_getElem?, List.getElem?_toArray, List.getElem?_cons_zero, List.getElem?_cons_succ, Option.getD_some, List.setIfInBounds_toArray, List.set_cons_zero, List.set_cons_succ])
                  | (refine wpS_read (v := ?_) rfl ?_ ?_; rotate_left; (focus (intro w' hG; go_simp; try (with_reducible rfl))); simp only [Act.put, List.setIfInBounds_toArray, List.set_cons_zero, List.set_cons_succ])
                  | (refine wpS_skip rfl ?_; simp only [Act.put, List.setIfInBounds_toArray, List.set_cons_zero, List.set_cons_succ]))
                refine wpS_nil ?_
                have hw1 : IntKind.i64.wrap ((j1 : Int) - 1) = ((j1 - 1 : Nat) : Int) := by rw [IntKind.wrap_i64]; have := HJ1.out; have := HN.out; omega
                go_wp2
                go_roundg (j1 - 1)
                case measure => have := HJ1.out; omega
                case rel => exact ⟨j1 - 1, S5, n1 + 1, rfl, by have := HJ1.out; omega, by first | rfl | go_num, ⟨HN1.out.1, by have := HN1.out.2; have := HJ1.out; omega⟩, HP1.out, HF2.out⟩
              · have e0 := neqs hmd
                clear hmd
                refine wp_region_schedG (UpdS (fun i => i = b)) (UpdS.refl _) (fun _ _ _ => UpdS.trans) (by kernel_rfl) [(0, false), (1, false), (2, false), (3, false), (4, false), (5, false), (6, false), (7, false), (8, false), (9, false), (10, true), (11, false), (12, false), (13, false), (14, false), (15, false), (17, false), (16, true), (18, true), (19, false), (20, false)] (by kernel_rfl) (by kernel_rfl) rfl (fun _ _ d _ _ h => by cases d <;> exact h) ?_
                simp only [inOrder, List.filterMap_cons, List.filterMap_nil, List.getElem?_toArray, List.getElem?_cons_zero, List.getElem?_cons_succ, Option.map_some]
                repeat (first
                  | (refine wpS_move rfl ?_; simp only [Act.eval, Act.put, Array.getD_eq_getD_getElem?, List.getElem?_toArray, List.getElem?_cons_zero, List.getElem?_cons_succ, Option.getD_some, List.setIfInBounds_toArray, List.set_cons_zero, List.set_cons_succ])
                  | (refine wpS_assign rfl ?_; simp only [Act.eval, Act.put, Array.getD_eq_getD_getElem?, List.getElem?_toArray, List.getElem?_cons_zero, List.getElem?_cons_succ, Option.getD_some, List.setIfInBounds_toArray, List.set_cons_zero, List.set_cons_succ])
                  | (refine wpS_read (v := ?_) rfl ?_ ?_; rotate_left; (focus (intro w' hG; obtain ⟨⟨q0, q1⟩, q2, q3⟩ := fz w' hG; go_simp; try (with_reducible rfl))); simp only [Act.put, List.setIfInBounds_toArray, List.set_cons_zero, List.set_cons_succ])
                  | (refine wpS_skip rfl ?_; simp only [Act.put, List.setIfInBounds_toArray, List.set_cons_zero, List.set_cons_succ]))
                refine wpS_call (f := ?_) (args := ?_) (by rfl) ?_ ?_
                rotate_left 2; focus (go_simp; constructor <;> with_reducible rfl)
                refine ((KC.out _ HZ.out.1)).mono ?_
                rintro e wg ⟨rfl, gg1⟩
                refine ⟨_, rfl, gg1.s, ?_⟩
                simp only [Act.put, List.setIfInBounds_toArray, List.set_cons_zero, List.set_cons_succ]
                have HH := hid (HZ.out.grow gg1)
                have fz2 := fun w' (hu : UpdS (fun i => i = b) wg w') => fz w' (gg1.s.trans hu)
                repeat (first
                  | (refine wpS_move rfl ?_; simp only [Act.eval, Act.put, Array.getD_eq_getD_getElem?, List.getElem?_toArray, List.getElem?_cons_zero, List.getElem?_cons_succ, Option.getD_some, List.setIfInBounds_toArray, List.set_cons_zero, List.set_cons_succ])
                  | (refine wpS_assign rfl ?_; simp only [Act.eval, Act.put, Array.getD_eq_getD_getElem?, List.getElem?_toArray, List.getElem?_cons_zero, List.getElem?_cons_succ, Option.getD_some, List.setIfInBounds_toArray, List.set_cons_zero, List.set_cons_succ])
                  | (refine wpS_read (v := ?_) rfl ?_ ?_; rotate_left; (focus (intro w' hG; obtain ⟨⟨q0, q1⟩, q2, q3⟩ := fz2 w' hG; go_simp; try (with_reducible rfl))); simp only [Act.put, List.setIfInBounds_toArray, List.set_cons_zero, List.set_cons_succ])
                  | (refine wpS_skip rfl ?_; simp only [Act.put, List.setIfInBounds_toArray, List.set_cons_zero, List.set_cons_succ]))
                refine wpS_call (f := ?_) (args := ?_) (by rfl) ?_ ?_
                rotate_left 2; focus (go_simp; constructor <;> with_reducible rfl)
                refine ((KR2.out _ HH.out.1)).mono ?_
                rintro e wh ⟨rfl, gh⟩
                refine ⟨_, rfl, gh.s, ?_⟩
                simp only [Act.put, List.setIfInBounds_toArray, List.set_cons_zero, List.set_cons_succ]
                have HI := hid (HH.out.grow gh)
                repeat (first
                  | (refine wpS_move rfl ?_; simp only [Act.eval, Act.put, Array.getD_eq_getD_getElem?, List.getElem?_toArray, List.getElem?_cons_zero, List.getElem?_cons_succ, Option.getD_some, List.setIfInBounds_toArray, List.set_cons_zero, List.set_cons_succ])
                  | (refine wpS_assign rfl ?_; simp only [Act.eval, Act.put, Array.getD_eq_getD_getElem?, List.getElem?_toArray, List.getElem?_cons_zero, List.getElem?_cons_succ, Option.getD_some, List.setIfInBounds_toArray, List.set_cons_zero, List.set_cons_succ])
                  | (refine wpS_read (v := ?_) rfl ?_ ?_; rotate_left; (focus (intro w' hG; go_simp; try (with_reducible rfl))); simp only [Act.put, List.setIfInBounds_toArray, List.set_cons_zero, List.set_cons_succ])
                  | (refine wpS_skip rfl ?_; simp only [Act.put, List.setIfInBounds_toArray, List.set_cons_zero, List.set_cons_succ]))
                refine wpS_call (f := ?_) (args := ?_) (by rfl) ?_ ?_
                rotate_left 2; focus (go_simp; constructor <;> with_reducible rfl)
                refine ((KV.out _ HI.out.1)).mono ?_
                rintro e wi ⟨rfl, ti, ui⟩
                refine ⟨_, rfl, ui, ?_⟩
                simp only [Act.put, List.setIfInBounds_toArray, List.set_cons_zero, List.set_cons_succ]
                have HF2 := hid (HI.out.turn ti ui)
                clear fz fz2 gg1 gh ti ui HH HI HZ HVZ KC KR2 KV
                repeat (first
                  | (refine wpS_move rfl ?_; simp only [Act.eval, Act.put, Array.getD_eq_getD_getElem?, List.getElem?_toArray, List.getElem?_cons_zero, List.getElem?_cons_succ, Option.getD_some, List.setIfInBounds_toArray, List.set_cons_zero, List.set_cons_succ])
                  | (refine wpS_assign rfl ?_; simp only [Act.eval, Act.put, Array.getD_eq_getD_getElem?, List.getElem?_toArray, List.getElem?_cons_zero, List.getElem?_cons_succ, Option.getD_some, List.setIfInBounds_toArray, List.set_cons_zero, List.set_cons_succ])
                  | (refine wpS_read (v := ?_) rfl ?_ ?_; rotate_left; (focus (intro w' hG; go_simp; try (with_reducible rfl))); simp only [Act.put, List.setIfInBounds_toArray, List.set_cons_zero, List.set_cons_succ])
                  | (refine wpS_skip rfl ?_; simp only [Act.put, List.setIfInBounds_toArray, List.set_cons_zero, List.set_cons_succ]))
                refine wpS_nil ?_
                have hw1 : IntKind.i64.wrap ((j1 : Int) - 1) = ((j1 - 1 : Nat) : Int) := by rw [IntKind.wrap_i64]; have := HJ1.out; have := HN.out; omega
                go_wp2
                go_roundg (j1 - 1)
                case measure => have := HJ1.out; omega
                case rel => exact ⟨j1 - 1, S5, n1 + 1, rfl, by have := HJ1.out; omega, by first | rfl | go_num, ⟨HN1.out.1, by have := HN1.out.2; have := HJ1.out; omega⟩, HP1.out, HF2.out⟩
            · have hlt1' : ¬ (0 : Int) < (j1 : Int) := by omega
              have kc := checkR_no b S1 3 n1 ⟨ds, dg⟩ wa HY.out.2.2.1 HY.out.2.1.1.1 HY.out.2.1.2.2.1
              have KL := hid (fun u hu => live_any b S1 3 n1 u hu HY.out.2.1.1.1.len)
              rw [HY.out.2.1.2.1] at KL
              obtain ⟨⟨p0, p1⟩, -⟩ := HY.out.2.2.2.1.two
              have HYM := hid HY.out.2.2
              clear hlt1 hk1 hj1 HY HL7 HNB
              generalize L.length = ll at *
              go_wp2_with fail
              refine kc.mono ?_
              rintro e wb ⟨rfl, gb⟩
              have HB1 := hid (HYM.out.grow gb)
              have kl := KL.out wb HB1.out.1
              clear kc gb HYM p0 p1 KL
              go_wp2_with fail
              refine kl.mono ?_
              rintro e wd ⟨rfl, gd⟩
              have HD1 := hid (HB1.out.2.2.1.trans gd)
              clear kl gd HB1
              go_wp2_with fail
              refine (lives_any wd).mono ?_
              rintro e we ⟨rfl, ge⟩
              go_wp2
              go_ret
              exact ⟨rfl, HD1.out.trans ge⟩
      · have hlt' : ¬ (j : Int) < (ls.length : Int) := by omega
        clear hgo hlt
        have HL7 : Hid (L.length ≤ 7) := by show L.length ≤ 7; rw [HX.out.1]; exact hj7
        obtain ⟨av, cv, hsh⟩ := HX.out.2.2.2.1.shape
        subst hsh
        by_cases hz : L.length = 0
        · have hG : Hid (Grow w wr) := HX.out.2.2.2.2.1
          have e0 : ((L.length : Int) == 0) = true := eqs (by omega)
          clear hz HX hk hj hj7
          generalize L.length = ll at *
          go_wp2_with fail
          refine (lives_any wr).mono ?_
          rintro e w3 ⟨rfl, g3⟩
          go_wp2
          go_ret
          exact ⟨rfl, hG.out.trans g3⟩
        · have hpos : 0 < L.length := by omega
          have e0 : ((L.length : Int) == 0) = false := neqs (by omega)
          have hle7 : L.length ≤ 7 := HL7.out
          have kq := fun u => around_any k0 (L.length : Int) u HK.out (by omega) (by omega)
          have hbq := around_bd k0 (L.length : Int) (by omega)
          generalize around k0 (L.length : Int) = q0 at kq hbq
          obtain ⟨q, rfl⟩ := Int.eq_ofNat_of_zero_le hbq.1
          have hq : q < L.length := by omega
          have hqL : (q : Int) < (L.length : Int) := by omega
          have hg := (HX.out.2.1.2.2.2.1 (L.getD q Cp.zero)).2 (.inr (cp_at hq))
          have hs := HX.out.2.1.2.2.2.2 (L.getD q Cp.zero) (cp_at hq)
          obtain ⟨g0, g8, -, -⟩ := goodB_yes hg
          have hold := (HX.out.2.1.1.1.old hg).1
          obtain ⟨bb, oo, e1, c0, c1⟩ := rdC_at HX.out.2.2.2.1.rd hq
          subst e1
          have HP := hid HX.out.2.1
          have HM := hid HX.out.2.2
          clear HX
          generalize L.getD q Cp.zero = d at hg hs g0 g8 hold c0 c1
          obtain ⟨ds, dg⟩ := d
          simp only at hs g0 g8 hold c0 c1
          obtain ⟨hR2, hl2⟩ := HP.out.1.cut (d := ⟨ds, dg⟩) hs hg
          have K2 := hid (fun u hu => revokeR_yes b S 3 _ ⟨ds, dg⟩ u hu HP.out.1 hg)
          have hcl := good_cleared (S := S) (c := ⟨ds, dg⟩)
          have K3 := hid (fun u hu => revokeR_no b _ 3 _ ⟨ds, dg⟩ u hu hR2 hcl)
          have R1 := hid (fun u hu => rootR_any b S 3 _ u hu HP.out.1.1)
          have R2 := hid (fun u hu => rootR_any b _ 3 _ u hu hR2.1)
          have HPV : Hid (RvP (S.set (⟨ds, dg⟩ : Cp).s.toNat Sl.zero) ((L.length : Int) + 1) L.length ⟨ds, dg⟩) := ⟨hR2, by have := HP.out.2.1; omega, hcl, by show dg < 3145728 + ((L.length : Int) + 1); omega⟩
          simp only [show (3 : Int) * 1048576 = 3145728 from rfl] at K2 K3 R1 R2
          have HNB : Hid (1 ≤ (L.length : Int) + 1 ∧ (L.length : Int) + 1 ≤ 8) := ⟨by omega, by omega⟩
          generalize S.set (⟨ds, dg⟩ : Cp).s.toNat Sl.zero = S2 at K2 K3 R2 HPV
          generalize hnn : ((L.length : Int) + 1) = nn at K2 K3 R1 R2 HM HPV HNB
          clear hg hs g0 g8 hold hR2 hl2 hcl HP hnn hz hk hj hj7 hbq hq hpos hle7
          go_wp2_with fail
          refine (kq wr).mono ?_
          rintro e w2 ⟨rfl, rfl⟩
          clear kq
          obtain ⟨hv4, hm4, hb4⟩ := HM.out.var ds dg
          obtain ⟨b13, hb13⟩ : ∃ b13, b13 = wr.heap.size := ⟨_, rfl⟩
          obtain ⟨W4, hW4⟩ : ∃ W4, W4 = wr.alloc (.cells #[.int .i64 ds, .int .i64 dg] 33) := ⟨_, rfl⟩
          rw [← hW4, ← hb13] at hv4
          rw [← hW4] at hm4
          rw [← hb13] at hb4
          have H4 : Hid (RvM w W4.drew b b13 S nn ⟨ds, dg⟩) := ⟨hm4.1.grow (Grow.refl _).drew, hv4.grow (Grow.refl _).drew, hm4.2.2.1.drew, hm4.2.2.2, hb4⟩
          clear hv4 hm4 hb4 HM
          go_wp2
          rw [← hW4, ← hb13]
          clear hW4 hb13 c0 c1
          refine wp_region_schedG (UpdS (fun i => i = b)) (UpdS.refl _) (fun _ _ _ => UpdS.trans) (by kernel_rfl) [(0, false), (1, false), (3, false), (2, true), (4, true), (5, false), (6, false), (7, false), (8, false), (10, false), (9, true), (11, true), (12, false), (13, false)] (by kernel_rfl) (by kernel_rfl) rfl (fun _ _ d _ _ h => by cases d <;> exact h) ?_
          simp only [inOrder, List.filterMap_cons, List.filterMap_nil, List.getElem?_toArray, List.getElem?_cons_zero, List.getElem?_cons_succ, Option.map_some]
          repeat (first
            | (refine wpS_move rfl ?_; simp only [Act.eval, Act.put, Array.getD_eq_getD_getElem?, List.getElem?_toArray, List.getElem?_cons_zero, List.getElem?_cons_succ, Option.getD_some, List.setIfInBounds_toArray, List.set_cons_zero, List.set_cons_succ])
            | (refine wpS_assign rfl ?_; simp only [Act.eval, Act.put, Array.getD_eq_getD_getElem?, List.getElem?_toArray, List.getElem?_cons_zero, List.getElem?_cons_succ, Option.getD_some, List.setIfInBounds_toArray, List.set_cons_zero, List.set_cons_succ])
            | (refine wpS_read (v := ?_) rfl ?_ ?_; rotate_left; (focus (intro w' hG; obtain ⟨⟨q0, q1⟩, -⟩ := (H4.out.2.1.upd hG (by have := H4.out.2.2.2.2; omega)).two; go_simp; try (with_reducible rfl))); simp only [Act.put, List.setIfInBounds_toArray, List.set_cons_zero, List.set_cons_succ])
            | (refine wpS_skip rfl ?_; simp only [Act.put, List.setIfInBounds_toArray, List.set_cons_zero, List.set_cons_succ]))
          refine wpS_call (f := ?_) (args := ?_) (by rfl) ?_ ?_
          rotate_left 2; focus (go_simp; constructor <;> with_reducible rfl)
          refine ((R1.out _ H4.out.1)).mono ?_
          rintro e w5 ⟨rfl, g5⟩
          refine ⟨_, rfl, g5.s, ?_⟩
          simp only [Act.put, List.setIfInBounds_toArray, List.set_cons_zero, List.set_cons_succ]
          have H5 := hid (H4.out.grow g5)
          repeat (first
            | (refine wpS_move rfl ?_; simp only [Act.eval, Act.put, Array.getD_eq_getD_getElem?, List.getElem?_toArray, List.getElem?_cons_zero, List.getElem?_cons_succ, Option.getD_some, List.setIfInBounds_toArray, List.set_cons_zero, List.set_cons_succ])
            | (refine wpS_assign rfl ?_; simp only [Act.eval, Act.put, Array.getD_eq_getD_getElem?, List.getElem?_toArray, List.getElem?_cons_zero, List.getElem?_cons_succ, Option.getD_some, List.setIfInBounds_toArray, List.set_cons_zero, List.set_cons_succ])
            | (refine wpS_read (v := ?_) rfl ?_ ?_; rotate_left; (focus (intro w' hG; go_simp; try (with_reducible rfl))); simp only [Act.put, List.setIfInBounds_toArray, List.set_cons_zero, List.set_cons_succ])
            | (refine wpS_skip rfl ?_; simp only [Act.put, List.setIfInBounds_toArray, List.set_cons_zero, List.set_cons_succ]))
          refine wpS_call (f := ?_) (args := ?_) (by rfl) ?_ ?_
          rotate_left 2; focus (go_simp; constructor <;> with_reducible rfl)
          refine ((K2.out w5 H5.out.1)).mono ?_
          rintro e w6 ⟨rfl, t6, u6⟩
          refine ⟨_, rfl, u6, ?_⟩
          simp only [Act.put, List.setIfInBounds_toArray, List.set_cons_zero, List.set_cons_succ]
          have H6 := hid (H5.out.turn t6 u6)
          clear t6 u6 g5 H4 H5 K2 R1
          repeat (first
            | (refine wpS_move rfl ?_; simp only [Act.eval, Act.put, Array.getD_eq_getD_getElem?, List.getElem?_toArray, List.getElem?_cons_zero, List.getElem?_cons_succ, Option.getD_some, List.setIfInBounds_toArray, List.set_cons_zero, List.set_cons_succ])
            | (refine wpS_assign rfl ?_; simp only [Act.eval, Act.put, Array.getD_eq_getD_getElem?, List.getElem?_toArray, List.getElem?_cons_zero, List.getElem?_cons_succ, Option.getD_some, List.setIfInBounds_toArray, List.set_cons_zero, List.set_cons_succ])
            | (refine wpS_read (v := ?_) rfl ?_ ?_; rotate_left; (focus (intro w' hG; obtain ⟨⟨q0, q1⟩, -⟩ := (H6.out.2.1.upd hG (by have := H6.out.2.2.2.2; omega)).two; go_simp; try (with_reducible rfl))); simp only [Act.put, List.setIfInBounds_toArray, List.set_cons_zero, List.set_cons_succ])
            | (refine wpS_skip rfl ?_; simp only [Act.put, List.setIfInBounds_toArray, List.set_cons_zero, List.set_cons_succ]))
          refine wpS_call (f := ?_) (args := ?_) (by rfl) ?_ ?_
          rotate_left 2; focus (go_simp; constructor <;> with_reducible rfl)
          refine ((R2.out w6 H6.out.1)).mono ?_
          rintro e w7 ⟨rfl, g7⟩
          refine ⟨_, rfl, g7.s, ?_⟩
          simp only [Act.put, List.setIfInBounds_toArray, List.set_cons_zero, List.set_cons_succ]
          have H7 := hid (H6.out.grow g7)
          repeat (first
            | (refine wpS_move rfl ?_; simp only [Act.eval, Act.put, Array.getD_eq_getD_getElem?, List.getElem?_toArray, List.getElem?_cons_zero, List.getElem?_cons_succ, Option.getD_some, List.setIfInBounds_toArray, List.set_cons_zero, List.set_cons_succ])
            | (refine wpS_assign rfl ?_; simp only [Act.eval, Act.put, Array.getD_eq_getD_getElem?, List.getElem?_toArray, List.getElem?_cons_zero, List.getElem?_cons_succ, Option.getD_some, List.setIfInBounds_toArray, List.set_cons_zero, List.set_cons_succ])
            | (refine wpS_read (v := ?_) rfl ?_ ?_; rotate_left; (focus (intro w' hG; go_simp; try (with_reducible rfl))); simp only [Act.put, List.setIfInBounds_toArray, List.set_cons_zero, List.set_cons_succ])
            | (refine wpS_skip rfl ?_; simp only [Act.put, List.setIfInBounds_toArray, List.set_cons_zero, List.set_cons_succ]))
          refine wpS_call (f := ?_) (args := ?_) (by rfl) ?_ ?_
          rotate_left 2; focus (go_simp; constructor <;> with_reducible rfl)
          refine ((K3.out w7 H7.out.1)).mono ?_
          rintro e w8 ⟨rfl, g8⟩
          refine ⟨_, rfl, g8.s, ?_⟩
          simp only [Act.put, List.setIfInBounds_toArray, List.set_cons_zero, List.set_cons_succ]
          have H8 := hid (H7.out.grow g8)
          clear g7 g8 H6 H7 K3 R2
          repeat (first
            | (refine wpS_move rfl ?_; simp only [Act.eval, Act.put, Array.getD_eq_getD_getElem?, List.getElem?_toArray, List.getElem?_cons_zero, List.getElem?_cons_succ, Option.getD_some, List.setIfInBounds_toArray, List.set_cons_zero, List.set_cons_succ])
            | (refine wpS_assign rfl ?_; simp only [Act.eval, Act.put, Array.getD_eq_getD_getElem?, List.getElem?_toArray, List.getElem?_cons_zero, List.getElem?_cons_succ, Option.getD_some, List.setIfInBounds_toArray, List.set_cons_zero, List.set_cons_succ])
            | (refine wpS_read (v := ?_) rfl ?_ ?_; rotate_left; (focus (intro w' hG; go_simp; try (with_reducible rfl))); simp only [Act.put, List.setIfInBounds_toArray, List.set_cons_zero, List.set_cons_succ])
            | (refine wpS_skip rfl ?_; simp only [Act.put, List.setIfInBounds_toArray, List.set_cons_zero, List.set_cons_succ]))
          refine wpS_nil ?_
          go_wp2_with fail
          refine (HA21.out w8).mono ?_
          rintro e w9 ⟨rfl, rfl⟩
          go_wp2
          go_loopg [14] M (fun k i wx => ∃ (j1 : Nat) (S1 : List Sl) (n1 : Int), k = j1 ∧ j1 ≤ M ∧ i = .int .i64 j1 ∧ Hid ((1 ≤ n1 ∧ n1 + (j1 : Int) ≤ 28) ∧ RvP S1 n1 L.length ⟨ds, dg⟩ ∧ RvM w wx b b13 S1 n1 ⟨ds, dg⟩))
          case atStart => exact ⟨M, S2, nn, rfl, Nat.le_refl _, rfl, ⟨HNB.out.1, by have := HNB.out.2; have := HN.out; omega⟩, HPV.out, H8.out⟩
          case round =>
            clear H8 HPV
            obtain ⟨j1, S1, n1, hk1, hj1, rfl, HY⟩ := hrel
            obtain ⟨wa, rfl⟩ : ∃ wa, wa = wr := ⟨_, rfl⟩
            by_cases hlt1 : 0 < j1
            · have hlt1' : (0 : Int) < (j1 : Int) := by omega
              have HJ1 : Hid (0 < j1 ∧ gk = j1 ∧ j1 ≤ M) := ⟨hlt1, hk1, hj1⟩
              clear hlt1 hk1 hj1
              -- the round: one minted, looked at, revoked
              obtain ⟨hR1, hG1, hD1, hP1⟩ := HY.out.2.1.step (c := L.length) (by have := HL7.out; omega) (by have := HY.out.1; omega)
              have KR := hid (fun u hu => rootR_any b S1 3 n1 u hu HY.out.2.1.1.1)
              have KM : Hid (∀ u, TbAt u b S1 3 n1 → Calls Try.prog 21 #[.pointer (some ⟨b, 0, none⟩), .agg #[.int .i64 0, .int .i64 3145728], .int .i64 15] u fun e w' => e = .returned (.tuple #[.agg #[.int .i64 (roomN S1), .int .i64 (3145728 + n1)], .int .i64 0]) ∧ TbAt w' b (minted S1 3 n1 15) 3 (n1 + 1) ∧ UpdS (fun x => x = b) u w') := fun u hu => mintR_any b S1 3 n1 15 u hu HY.out.2.1.1 (by rw [HY.out.2.1.2.1]; have := HL7.out; omega) (by have := HY.out.1; omega) (by omega)
              have KC := hid (fun u hu => checkR_no b (minted S1 3 n1 15) 3 (n1 + 1) ⟨ds, dg⟩ u hu hR1.1 hD1)
              have KR2 := hid (fun u hu => rootR_any b (minted S1 3 n1 15) 3 (n1 + 1) u hu hR1.1)
              have KV : Hid (∀ u, TbAt u b (minted S1 3 n1 15) 3 (n1 + 1) → Calls Try.prog 15 #[.pointer (some ⟨b, 0, none⟩), .agg #[.int .i64 0, .int .i64 3145728], .agg #[.int .i64 (roomN S1), .int .i64 (3145728 + n1)]] u fun e w' => e = .returned (.int .i64 0) ∧ TbAt w' b ((minted S1 3 n1 15).set (roomN S1) Sl.zero) 3 (n1 + 1) ∧ UpdS (fun x => x = b) u w') := fun u hu => revokeR_yes b _ 3 (n1 + 1) ⟨roomN S1, 3145728 + n1⟩ u hu hR1 hG1
              simp only [show (3 : Int) * 1048576 = 3145728 from rfl] at KR KC KR2
              have HP1 := hid hP1
              have hlt3 : ¬ 3145728 + n1 = dg := by have := HY.out.2.1.2.2.2; simp only at this; omega
              have e1 := neqs hlt3
              have HN1 : Hid (1 ≤ n1 + 1 ∧ n1 + 1 + ((j1 : Int) - 1) ≤ 28) := ⟨by have := HY.out.1; omega, by have := HY.out.1; omega⟩
              have HYM := hid HY.out.2.2
              clear hR1 hG1 hD1 hP1 HY
              generalize (3145728 : Int) + n1 = g3 at KM KV e1 hlt3
              generalize hSS : (minted S1 3 n1 15).set (roomN S1) Sl.zero = S5 at KV HP1
              generalize minted S1 3 n1 15 = S4 at KM KC KR2 KV
              generalize roomN S1 = m1 at KM KV
              clear hSS hlt3
              have kr := KR.out wa HYM.out.1
              go_wp2_with fail
              refine kr.mono ?_
              rintro e wb ⟨rfl, gb⟩
              have HB1 := hid (HYM.out.grow gb)
              clear kr gb KR HYM
              go_wp2_with fail
              refine (all_any wb).mono ?_
              rintro e wd ⟨rfl, gd⟩
              have HD1 := hid (HB1.out.grow gd)
              have km := KM.out wd HD1.out.1
              clear gd HB1 KM
              go_wp2_with fail
              refine km.mono ?_
              rintro e we ⟨rfl, te, ue⟩
              have HE1 := hid (HD1.out.turn te ue)
              obtain ⟨b15, hb15⟩ : ∃ b15, b15 = we.heap.size := ⟨_, rfl⟩
              obtain ⟨Wf, hWf⟩ : ∃ Wf, Wf = we.alloc (.cells #[.int .i64 m1, .int .i64 g3] 33) := ⟨_, rfl⟩
              have gf : Grow we Wf := by rw [hWf]; exact (Grow.refl we).alloc _
              have HV15 : Hid (VarAt Wf b15 [.int .i64 m1, .int .i64 g3] ∧ b < b15) := ⟨by rw [hWf, hb15]; exact VarAt.new we [.int .i64 m1, .int .i64 g3] _, by rw [hb15]; exact HE1.out.1.lt⟩
              have HF1 := hid (HE1.out.grow gf)
              clear km te ue gf HD1 HE1
              have HZ := hid (HF1.out.grow (Grow.refl _).drew)
              have HVZ := hid (And.intro (HV15.out.1.grow (Grow.refl _).drew) HV15.out.2)
              have fz : ∀ w', UpdS (fun i => i = b) Wf.drew w' → (w'.cell? ⟨b13, 0, none⟩ = some (.int .i64 ds) ∧ w'.cell? ⟨b13, 1, none⟩ = some (.int .i64 dg)) ∧ (w'.cell? ⟨b15, 0, none⟩ = some (.int .i64 m1) ∧ w'.cell? ⟨b15, 1, none⟩ = some (.int .i64 g3)) := fun w' hu =>
                ⟨(HZ.out.2.1.upd hu (by have := HZ.out.2.2.2.2; omega)).two.1, (HVZ.out.1.upd hu (by have := HVZ.out.2; omega)).two.1⟩
              go_upto_region 21 with fail
              rw [← hWf, ← hb15]
              clear hWf hb15 HF1 HV15
              by_cases hmd : (m1 : Int) = ds
              · have e0 := eqs hmd
                clear hmd
                refine wp_region_schedG (UpdS (fun i => i = b)) (UpdS.refl _) (fun _ _ _ => UpdS.trans) (by kernel_rfl) [(0, false), (1, false), (2, false), (3, false), (4, false), (5, false), (6, false), (7, false), (8, false), (9, false), (10, true), (11, false), (12, false), (13, false), (14, false), (15, false), (17, false), (16, true), (18, true), (19, false), (20, false)] (by kernel_rfl) (by kernel_rfl) rfl (fun _ _ d _ _ h => by cases d <;> exact h) ?_
                simp only [inOrder, List.filterMap_cons, List.filterMap_nil, List.getElem?_toArray, List.getElem?_cons_zero, List.getElem?_cons_succ, Option.map_some]
                repeat (first
                  | (refine wpS_move rfl ?_; simp only [Act.eval, Act.put, Array.getD_eq_getD_getElem?, List.getElem?_toArray, List.getElem?_cons_zero, List.getElem?_cons_succ, Option.getD_some, List.setIfInBounds_toArray, List.set_cons_zero, List.set_cons_succ])
                  | (refine wpS_assign rfl ?_; simp only [Act.eval, Act.put, Array.getD_eq_getD_getElem?, List.getElem?_toArray, List.getElem?_cons_zero, List.getElem?_cons_succ, Option.getD_some, List.setIfInBounds_toArray, List.set_cons_zero, List.set_cons_succ])
                  | (refine wpS_read (v := ?_) rfl ?_ ?_; rotate_left; (focus (intro w' hG; obtain ⟨⟨q0, q1⟩, q2, q3⟩ := fz w' hG; go_simp; try (with_reducible rfl))); simp only [Act.put, List.setIfInBounds_toArray, List.set_cons_zero, List.set_cons_succ])
                  | (refine wpS_skip rfl ?_; simp only [Act.put, List.setIfInBounds_toArray, List.set_cons_zero, List.set_cons_succ]))
                refine wpS_call (f := ?_) (args := ?_) (by rfl) ?_ ?_
                rotate_left 2; focus (go_simp; constructor <;> with_reducible rfl)
                refine ((KC.out _ HZ.out.1)).mono ?_
                rintro e wg ⟨rfl, gg1⟩
                refine ⟨_, rfl, gg1.s, ?_⟩
                simp only [Act.put, List.setIfInBounds_toArray, List.set_cons_zero, List.set_cons_succ]
                have HH := hid (HZ.out.grow gg1)
                have fz2 := fun w' (hu : UpdS (fun i => i = b) wg w') => fz w' (gg1.s.trans hu)
                repeat (first
                  | (refine wpS_move rfl ?_; simp only [Act.eval, Act.put, Array.getD_eq_getD_getElem?, List.getElem?_toArray, List.getElem?_cons_zero, List.getElem?_cons_succ, Option.getD_some, List.setIfInBounds_toArray, List.set_cons_zero, List.set_cons_succ])
                  | (refine wpS_assign rfl ?_; simp only [Act.eval, Act.put, Array.getD_eq_getD_getElem?, List.getElem?_toArray, List.getElem?_cons_zero, List.getElem?_cons_succ, Option.getD_some, List.setIfInBounds_toArray, List.set_cons_zero, List.set_cons_succ])
                  | (refine wpS_read (v := ?_) rfl ?_ ?_; rotate_left; (focus (intro w' hG; obtain ⟨⟨q0, q1⟩, q2, q3⟩ := fz2 w' hG; go_simp; try (with_reducible rfl))); simp only [Act.put, List.setIfInBounds_toArray, List.set_cons_zero, List.set_cons_succ])
                  | (refine wpS_skip rfl ?_; simp only [Act.put, List.setIfInBounds_toArray, List.set_cons_zero, List.set_cons_succ]))
                refine wpS_call (f := ?_) (args := ?_) (by rfl) ?_ ?_
                rotate_left 2; focus (go_simp; constructor <;> with_reducible rfl)
                refine ((KR2.out _ HH.out.1)).mono ?_
                rintro e wh ⟨rfl, gh⟩
                refine ⟨_, rfl, gh.s, ?_⟩
                simp only [Act.put, List.setIfInBounds_toArray, List.set_cons_zero, List.set_cons_succ]
                have HI := hid (HH.out.grow gh)
                repeat (first
                  | (refine wpS_move rfl ?_; simp only [Act.eval, Act.put, Array.getD_eq_getD_getElem?, List.getElem?_toArray, List.getElem?_cons_zero, List.getElem?_cons_succ, Option.getD_some, List.setIfInBounds_toArray, List.set_cons_zero, List.set_cons_succ])
                  | (refine wpS_assign rfl ?_; simp only [Act.eval, Act.put, Array.getD_eq_getD_getElem?, List.getElem?_toArray, List.getElem?_cons_zero, List.getElem?_cons_succ, Option.getD_some, List.setIfInBounds_toArray, List.set_cons_zero, List.set_cons_succ])
                  | (refine wpS_read (v := ?_) rfl ?_ ?_; rotate_left; (focus (intro w' hG; go_simp; try (with_reducible rfl))); simp only [Act.put, List.setIfInBounds_toArray, List.set_cons_zero, List.set_cons_succ])
                  | (refine wpS_skip rfl ?_; simp only [Act.put, List.setIfInBounds_toArray, List.set_cons_zero, List.set_cons_succ]))
                refine wpS_call (f := ?_) (args := ?_) (by rfl) ?_ ?_
                rotate_left 2; focus (go_simp; constructor <;> with_reducible rfl)
                refine ((KV.out _ HI.out.1)).mono ?_
                rintro e wi ⟨rfl, ti, ui⟩
                refine ⟨_, rfl, ui, ?_⟩
                simp only [Act.put, List.setIfInBounds_toArray, List.set_cons_zero, List.set_cons_succ]
                have HF2 := hid (HI.out.turn ti ui)
                clear fz fz2 gg1 gh ti ui HH HI HZ HVZ KC KR2 KV
                repeat (first
                  | (refine wpS_move rfl ?_; simp only [Act.eval, Act.put, Array.getD_eq_getD_getElem?, List.getElem?_toArray, List.getElem?_cons_zero, List.getElem?_cons_succ, Option.getD_some, List.setIfInBounds_toArray, List.set_cons_zero, List.set_cons_succ])
                  | (refine wpS_assign rfl ?_; simp only [Act.eval, Act.put, Array.getD_eq_getD_getElem?, List.getElem?_toArray, List.getElem?_cons_zero, List.getElem?_cons_succ, Option.getD_some, List.setIfInBounds_toArray, List.set_cons_zero, List.set_cons_succ])
                  | (refine wpS_read (v := ?_) rfl ?_ ?_; rotate_left; (focus (intro w' hG; go_simp; try (with_reducible rfl))); simp only [Act.put, List.setIfInBounds_toArray, List.set_cons_zero, List.set_cons_succ])
                  | (refine wpS_skip rfl ?_; simp only [Act.put, List.setIfInBounds_toArray, List.set_cons_zero, List.set_cons_succ]))
                refine wpS_nil ?_
                have hw1 : IntKind.i64.wrap ((j1 : Int) - 1) = ((j1 - 1 : Nat) : Int) := by rw [IntKind.wrap_i64]; have := HJ1.out; have := HN.out; omega
                go_wp2
                go_roundg (j1 - 1)
                case measure => have := HJ1.out; omega
                case rel => exact ⟨j1 - 1, S5, n1 + 1, rfl, by have := HJ1.out; omega, by first | rfl | go_num, ⟨HN1.out.1, by have := HN1.out.2; have := HJ1.out; omega⟩, HP1.out, HF2.out⟩
              · have e0 := neqs hmd
                clear hmd
                refine wp_region_schedG (UpdS (fun i => i = b)) (UpdS.refl _) (fun _ _ _ => UpdS.trans) (by kernel_rfl) [(0, false), (1, false), (2, false), (3, false), (4, false), (5, false), (6, false), (7, false), (8, false), (9, false), (10, true), (11, false), (12, false), (13, false), (14, false), (15, false), (17, false), (16, true), (18, true), (19, false), (20, false)] (by kernel_rfl) (by kernel_rfl) rfl (fun _ _ d _ _ h => by cases d <;> exact h) ?_
                simp only [inOrder, List.filterMap_cons, List.filterMap_nil, List.getElem?_toArray, List.getElem?_cons_zero, List.getElem?_cons_succ, Option.map_some]
                repeat (first
                  | (refine wpS_move rfl ?_; simp only [Act.eval, Act.put, Array.getD_eq_getD_getElem?, List.getElem?_toArray, List.getElem?_cons_zero, List.getElem?_cons_succ, Option.getD_some, List.setIfInBounds_toArray, List.set_cons_zero, List.set_cons_succ])
                  | (refine wpS_assign rfl ?_; simp only [Act.eval, Act.put, Array.getD_eq_getD_getElem?, List.getElem?_toArray, List.getElem?_cons_zero, List.getElem?_cons_succ, Option.getD_some, List.setIfInBounds_toArray, List.set_cons_zero, List.set_cons_succ])
                  | (refine wpS_read (v := ?_) rfl ?_ ?_; rotate_left; (focus (intro w' hG; obtain ⟨⟨q0, q1⟩, q2, q3⟩ := fz w' hG; go_simp; try (with_reducible rfl))); simp only [Act.put, List.setIfInBounds_toArray, List.set_cons_zero, List.set_cons_succ])
                  | (refine wpS_skip rfl ?_; simp only [Act.put, List.setIfInBounds_toArray, List.set_cons_zero, List.set_cons_succ]))
                refine wpS_call (f := ?_) (args := ?_) (by rfl) ?_ ?_
                rotate_left 2; focus (go_simp; constructor <;> with_reducible rfl)
                refine ((KC.out _ HZ.out.1)).mono ?_
                rintro e wg ⟨rfl, gg1⟩
                refine ⟨_, rfl, gg1.s, ?_⟩
                simp only [Act.put, List.setIfInBounds_toArray, List.set_cons_zero, List.set_cons_succ]
                have HH := hid (HZ.out.grow gg1)
                have fz2 := fun w' (hu : UpdS (fun i => i = b) wg w') => fz w' (gg1.s.trans hu)
                repeat (first
                  | (refine wpS_move rfl ?_; simp only [Act.eval, Act.put, Array.getD_eq_getD_getElem?, List.getElem?_toArray, List.getElem?_cons_zero, List.getElem?_cons_succ, Option.getD_some, List.setIfInBounds_toArray, List.set_cons_zero, List.set_cons_succ])
                  | (refine wpS_assign rfl ?_; simp only [Act.eval, Act.put, Array.getD_eq_getD_getElem?, List.getElem?_toArray, List.getElem?_cons_zero, List.getElem?_cons_succ, Option.getD_some, List.setIfInBounds_toArray, List.set_cons_zero, List.set_cons_succ])
                  | (refine wpS_read (v := ?_) rfl ?_ ?_; rotate_left; (focus (intro w' hG; obtain ⟨⟨q0, q1⟩, q2, q3⟩ := fz2 w' hG; go_simp; try (with_reducible rfl))); simp only [Act.put, List.setIfInBounds_toArray, List.set_cons_zero, List.set_cons_succ])
                  | (refine wpS_skip rfl ?_; simp only [Act.put, List.setIfInBounds_toArray, List.set_cons_zero, List.set_cons_succ]))
                refine wpS_call (f := ?_) (args := ?_) (by rfl) ?_ ?_
                rotate_left 2; focus (go_simp; constructor <;> with_reducible rfl)
                refine ((KR2.out _ HH.out.1)).mono ?_
                rintro e wh ⟨rfl, gh⟩
                refine ⟨_, rfl, gh.s, ?_⟩
                simp only [Act.put, List.setIfInBounds_toArray, List.set_cons_zero, List.set_cons_succ]
                have HI := hid (HH.out.grow gh)
                repeat (first
                  | (refine wpS_move rfl ?_; simp only [Act.eval, Act.put, Array.getD_eq_getD_getElem?, List.getElem?_toArray, List.getElem?_cons_zero, List.getElem?_cons_succ, Option.getD_some, List.setIfInBounds_toArray, List.set_cons_zero, List.set_cons_succ])
                  | (refine wpS_assign rfl ?_; simp only [Act.eval, Act.put, Array.getD_eq_getD_getElem?, List.getElem?_toArray, List.getElem?_cons_zero, List.getElem?_cons_succ, Option.getD_some, List.setIfInBounds_toArray, List.set_cons_zero, List.set_cons_succ])
                  | (refine wpS_read (v := ?_) rfl ?_ ?_; rotate_left; (focus (intro w' hG; go_simp; try (with_reducible rfl))); simp only [Act.put, List.setIfInBounds_toArray, List.set_cons_zero, List.set_cons_succ])
                  | (refine wpS_skip rfl ?_; simp only [Act.put, List.setIfInBounds_toArray, List.set_cons_zero, List.set_cons_succ]))
                refine wpS_call (f := ?_) (args := ?_) (by rfl) ?_ ?_
                rotate_left 2; focus (go_simp; constructor <;> with_reducible rfl)
                refine ((KV.out _ HI.out.1)).mono ?_
                rintro e wi ⟨rfl, ti, ui⟩
                refine ⟨_, rfl, ui, ?_⟩
                simp only [Act.put, List.setIfInBounds_toArray, List.set_cons_zero, List.set_cons_succ]
                have HF2 := hid (HI.out.turn ti ui)
                clear fz fz2 gg1 gh ti ui HH HI HZ HVZ KC KR2 KV
                repeat (first
                  | (refine wpS_move rfl ?_; simp only [Act.eval, Act.put, Array.getD_eq_getD_getElem?, List.getElem?_toArray, List.getElem?_cons_zero, List.getElem?_cons_succ, Option.getD_some, List.setIfInBounds_toArray, List.set_cons_zero, List.set_cons_succ])
                  | (refine wpS_assign rfl ?_; simp only [Act.eval, Act.put, Array.getD_eq_getD_getElem?, List.getElem?_toArray, List.getElem?_cons_zero, List.getElem?_cons_succ, Option.getD_some, List.setIfInBounds_toArray, List.set_cons_zero, List.set_cons_succ])
                  | (refine wpS_read (v := ?_) rfl ?_ ?_; rotate_left; (focus (intro w' hG; go_simp; try (with_reducible rfl))); simp only [Act.put, List.setIfInBounds_toArray, List.set_cons_zero, List.set_cons_succ])
                  | (refine wpS_skip rfl ?_; simp only [Act.put, List.setIfInBounds_toArray, List.set_cons_zero, List.set_cons_succ]))
                refine wpS_nil ?_
                have hw1 : IntKind.i64.wrap ((j1 : Int) - 1) = ((j1 - 1 : Nat) : Int) := by rw [IntKind.wrap_i64]; have := HJ1.out; have := HN.out; omega
                go_wp2
                go_roundg (j1 - 1)
                case measure => have := HJ1.out; omega
                case rel => exact ⟨j1 - 1, S5, n1 + 1, rfl, by have := HJ1.out; omega, by first | rfl | go_num, ⟨HN1.out.1, by have := HN1.out.2; have := HJ1.out; omega⟩, HP1.out, HF2.out⟩
            · have hlt1' : ¬ (0 : Int) < (j1 : Int) := by omega
              have kc := checkR_no b S1 3 n1 ⟨ds, dg⟩ wa HY.out.2.2.1 HY.out.2.1.1.1 HY.out.2.1.2.2.1
              have KL := hid (fun u hu => live_any b S1 3 n1 u hu HY.out.2.1.1.1.len)
              rw [HY.out.2.1.2.1] at KL
              obtain ⟨⟨p0, p1⟩, -⟩ := HY.out.2.2.2.1.two
              have HYM := hid HY.out.2.2
              clear hlt1 hk1 hj1 HY HL7 HNB
              generalize L.length = ll at *
              go_wp2_with fail
              refine kc.mono ?_
              rintro e wb ⟨rfl, gb⟩
              have HB1 := hid (HYM.out.grow gb)
              have kl := KL.out wb HB1.out.1
              clear kc gb HYM p0 p1 KL
              go_wp2_with fail
              refine kl.mono ?_
              rintro e wd ⟨rfl, gd⟩
              have HD1 := hid (HB1.out.2.2.1.trans gd)
              clear kl gd HB1
              go_wp2_with fail
              refine (lives_any wd).mono ?_
              rintro e we ⟨rfl, ge⟩
              go_wp2
              go_ret
              exact ⟨rfl, HD1.out.trans ge⟩
end Go.Proofs.Ytoobohbghobfhaa
