/-
  The walk of PartFinds. Conditions: the theorem's own.
-/
import Derived.Test.YthdhfojogckflaaW14Plays
import Derived.Test.YthdhfojogckflaaW14Uq
import Derived.Test.YthdhfojogckflaaW14Rounds
namespace Go.Proofs.Ythdhfojogckflaa
open Go.RowKit
set_option linter.unusedVariables false
set_option linter.unusedSimpArgs false

set_option maxRecDepth 16000 in
set_option maxHeartbeats 8000000 in
theorem partFinds_walk (n page : Int) (ao : Option Addr) (co : Nat) (os : List OD) (w : World) (hn : (Lit.int .i64 n).wf = true) (hos : RdS OD.cs 6 (fun i => i < w.heap.size) w (.slice ao os.length co) os) (hok : ∀ z ∈ os, OD.Ok w z) :
    Calls Try.prog 4 #[.int .i64 n, .slice ao os.length co, .int .i64 page] w fun e w' => e = .returned (.bool true) ∧ Grow w w' := by
  have hol := hos.len
  unfold maxLen at hol
  have ha := around_any n 4 w hn (by omega) (by omega)
  have hb := around_bd n 4 (by omega)
  obtain ⟨K, hK⟩ : ∃ K : Nat, (K : Int) = 1 + around n 4 := ⟨(1 + around n 4).toNat, by omega⟩
  generalize around n 4 = z5 at ha hb hK
  have hw5 : IntKind.i64.wrap (1 + z5) = (K : Int) := by rw [IntKind.wrap_i64]; omega
  have HK : Hid (1 ≤ K ∧ K ≤ 4) := ⟨by omega, by omega⟩
  have hnw := new_yes K w (by omega) (by omega)
  have hqn := fun w' => qnew_any K w' (by omega)
  have HS : Hid (RdS OD.cs 6 (fun i => i < w.heap.size) w (.slice ao os.length co) os ∧ ∀ z ∈ os, OD.Ok w z) := ⟨hos, hok⟩
  clear hb hK hos hok hn
  go_enter Try.func4, Try.ntmps4
  go_wp2_with fail
  refine ha.mono ?_
  rintro e w1 ⟨rfl, rfl⟩
  go_wp2_with fail
  refine hnw.mono ?_
  rintro e w2 ⟨rfl, k2, g2⟩
  obtain ⟨P, hP⟩ : ∃ P, w.heap.size + 1 = P := ⟨_, rfl⟩
  obtain ⟨b, hbb⟩ : ∃ b, w.heap.size = b := ⟨_, rfl⟩
  rw [hP, hbb] at k2
  rw [hP]
  have hq1 := hqn w2
  have H2 : Hid (PtO w2 P b 0 (List.replicate K FS.empty) 0 ∧ Grow w w2 ∧ w.heap.size ≤ P ∧ w.heap.size ≤ b) := ⟨k2, g2, by omega, by omega⟩
  clear k2 g2 hP hbb ha hnw hqn
  go_wp2_with fail
  refine hq1.mono ?_
  rintro e w3 ⟨a0, c0, rfl, r3, g3⟩
  have HI0 : Hid (∀ W B, w3.alloc (.cells #[.slice a0 K c0, .int .i64 0] 30) = W → w3.heap.size = B → ∃ (L : List FS) (h : Nat), LawI w P b B K W L h ∧ Uq L) := fun W B hW hB => by
    have gW : Grow w3 W := by rw [← hW]; exact (Grow.refl w3).alloc _
    have V : VarAt W B [.slice a0 K c0, .int .i64 0] := by rw [← hW, ← hB]; exact VarAt.new w3 [.slice a0 K c0, .int .i64 0] 30
    have h2 := H2.out
    have h3 := g3.size
    have h4 := h2.2.1.size
    have h5 := h2.1.lt
    have h6 := h2.1.2.2.1
    refine ⟨List.replicate K FS.empty, 0, ⟨(h2.1.grow g3).grow gW, repl_ok HK.out.1 (by have := HK.out.2; omega), List.length_replicate, ⟨a0, c0, V, (RdS.grow (rd_old r3) gW).mono (fun i _ hi => by omega)⟩, (h2.2.1.trans g3).trans gW, h2.2.2.1, h2.2.2.2, by omega, by omega, by omega⟩, Uq.empty K⟩
  clear hq1 r3 g3
  go_upto_region 6 with fail
  generalize hB : w3.heap.size = B
  generalize hW : w3.alloc (.cells #[.slice a0 K c0, .int .i64 0] 30) = W
  have HI1 : Hid (∃ (L : List FS) (h : Nat), LawI w P b B K W L h ∧ Uq L) := HI0.out W B hW hB
  clear hB hW HI0 H2
  go_wp2
  go_loopg [11] 16 (fun m iv wr => ∃ j : Nat, m = 16 - j ∧ j ≤ 16 ∧ iv = .int .i64 j ∧ Hid (∃ (L : List FS) (h : Nat), LawI w P b B K wr L h ∧ Uq L))
  case atStart => exact ⟨0, rfl, by omega, rfl, HI1⟩
  case round =>
    clear HI1
    obtain ⟨j, hj, hj2, rfl, HI⟩ := hrel
    obtain ⟨L, h, i0, iu⟩ := HI.out
    have HG : Hid (gk = 16 - j) := hj
    have HL : Hid (LawI w P b B K wr L h) := i0
    have HUq : Hid (Uq L) := iu
    clear hj HI i0 iu
    by_cases hjo : j < os.length
    · have hjo' : (j : Int) < (os.length : Int) := by omega
      by_cases hj16 : j < 16
      · have hj16' : (j : Int) < 16 := by omega
        have HJ : Hid (j < 16) := hj16
        have hw0 : IntKind.i64.wrap ((j : Int) + 1) = ((j + 1 : Nat) : Int) := by rw [IntKind.wrap_i64]; omega
        obtain ⟨bo, oo, z, rfl, hbo, hzok, -, hzc⟩ := od_at HS.out.1 HS.out.2 hjo
        obtain ⟨zd, zi, zp, zo, zn, zb⟩ := z
        obtain ⟨⟨hzd, hzi, hzp, hzo, hzn⟩, bs, hbs, hbo2⟩ := hzok
        simp only at hzc hzd hzi hzp hzo hzn hbs
        obtain ⟨ab, cb, hzb⟩ := hbs.shape
        subst hzb
        obtain ⟨i1, i2, i3, ⟨a, c, i4, i5⟩, i6, i7, i8, i9, i10, i11⟩ := HL.out
        have hPlt := i1.lt
        have hblt := i1.2.2.1
        have hBlt := i4.lt
        have HB : Hid (P < wr.heap.size ∧ b < wr.heap.size ∧ B < wr.heap.size ∧ w.heap.size ≤ P ∧ w.heap.size ≤ b ∧ w.heap.size ≤ B ∧ B ≠ P ∧ B ≠ b ∧ P ≠ b ∧ Grow w wr ∧ VarAt wr B [.slice a K c, .int .i64 h] ∧ RdQ (fun i => i ≠ P ∧ i ≠ b ∧ i ≠ B) wr (.slice a K c) L ∧ PtO wr P b 0 L h ∧ bo < w.heap.size) := ⟨hPlt, hblt, hBlt, i7, i8, i9, i10, i11, i1.2.1, i6, i4, i5, i1, hbo⟩
        have HZC : Hid (∀ w', Grow w w' → _) := hzc
        obtain ⟨⟨L', h'⟩, hstp⟩ : ∃ T, stp (around zd 13) (around zi ((L.length : Int) + 2) - 1) (around zp 5) zo zn bs L h = T := ⟨_, rfl⟩
        have hall := stp_all (around zd 13) (around zi ((L.length : Int) + 2) - 1) (around zp 5) zo zn i2 hbo2
        rw [hstp] at hall
        have HA : Hid (PtOk L' h' ∧ L'.length = K) := ⟨hall.1, hall.2.trans i3⟩
        have HUC : Hid (Uq L') := by
          have := Uq.stp (around zd 13) (around zi ((L.length : Int) + 2) - 1) (around zp 5) zo zn (ys := bs) HUq.out i2
          rw [hstp] at this
          exact this
        have HD : Hid (∀ (W : World) (pq : Nat → Prop), PtO W P b 0 L h → (∀ i, pq i → i ≠ P ∧ i ≠ b) → (∀ i, W.heap.size ≤ i → pq i) → RdQ pq W (.slice a K c) L → Grow w W → Calls Try.prog 12 #[.pointer (some ⟨P, 0, none⟩), .agg #[.slice a K c, .int .i64 h], .agg #[.int .i64 zd, .int .i64 zi, .int .i64 zp, .int .i64 zo, .int .i64 zn, .slice ab bs.length cb]] W fun e w' => ∃ a' c', e = .returned (.tuple #[.agg #[.slice a' K c', .int .i64 (h' : Nat)], .bool true]) ∧ RdQ pq w' (.slice a' K c') L' ∧ PtO w' P b 0 L' h' ∧ UpdS (fun i => i = P ∨ i = b) W w') := fun W pq kW hpq hpn hrW gW => by
          have := does_any W P b 0 L h kW i2 a c pq hpq hpn (by rw [i3]; exact hrW) zd zi zp zo zn _ bs ((hbs.mono (fun i hi _ => by omega)).grow gW) hzd hzi hzp hzo hzn L' h' hstp
          rw [i3] at this
          exact this
        have gd : Grow wr wr.drew := (Grow.refl wr).drew
        have hfx : ∀ w', UpdS (fun i => i = P ∨ i = b ∨ wr.heap.size ≤ i) wr.drew w' → ((w'.cell? ⟨B, 0, none⟩ = some (.slice a K c) ∧ w'.cell? ⟨B, 1, none⟩ = some (.int .i64 h)) ∧ w'.cell? ⟨bo, oo + j * 6, none⟩ = some (.int .i64 zd) ∧ w'.cell? ⟨bo, oo + j * 6 + 1, none⟩ = some (.int .i64 zi) ∧ w'.cell? ⟨bo, oo + j * 6 + 2, none⟩ = some (.int .i64 zp) ∧ w'.cell? ⟨bo, oo + j * 6 + 3, none⟩ = some (.int .i64 zo) ∧ w'.cell? ⟨bo, oo + j * 6 + 4, none⟩ = some (.int .i64 zn) ∧ w'.cell? ⟨bo, oo + j * 6 + 5, none⟩ = some (.slice ab bs.length cb)) := fun w' g =>
          ⟨((i4.grow gd).upd g (by omega)).two.1, hzc w' (UpdS.new (i6.trans gd) g (fun i hi => by have := i6.size; omega))⟩
        have hf0 := hfx wr.drew (UpdS.refl _ _)
        clear i1 i2 i3 i4 i5 i6 i7 i8 i9 i10 i11 hall hstp hbs hbo2 hzc hPlt hblt hBlt hzd hzi hzp hzo hzn HL
        go_upto_region 9 with fail
        go_cut [12, 13] from 38 to 122 (fun nv sv wx => ∃ (Nn : Nat) (a5 : Option Addr) (c5 : Nat), nv = .pointer (some ⟨Nn, 0, none⟩) ∧ sv = .bool true ∧ Hid (VarAt wx Nn [.slice a5 K c5, .int .i64 h'] ∧ PtO wx P b 0 L' h' ∧ RdQ (fun i => i ≠ P ∧ i ≠ b ∧ i ≠ B) wx (.slice a5 K c5) L' ∧ VarAt wx B [.slice a K c, .int .i64 h] ∧ Grow w wx))
        case first =>
          go_wp2
          refine wp_region_treeG (UpdS (fun i => i = P ∨ i = b ∨ wr.heap.size ≤ i)) (UpdS.refl _) (fun _ _ _ => UpdS.trans) (by kernel_rfl) (.read 0 (.read 1 (.read 2 (.read 3 (.read 4 (.read 5 (.fork 6 (.read 7 (.read 8 (.read 9 (.act 10 (.act 11 (.read 12 .done)))))) 10 (.act 6 (.read 7 (.read 8 (.read 9 (.act 11 (.read 12 .done))))))))))))) (by kernel_rfl) (by kernel_rfl) rfl (fun _ _ d _ _ h => by cases d <;> exact h) ?_
          simp only [Tr.over, List.getElem?_toArray, List.getElem?_cons_zero, List.getElem?_cons_succ]
          repeat (first
            | (refine wpT_move rfl ?_; simp only [Act.eval, Act.put, Array.getD_eq_getD_getElem?, List.getElem?_toArray, List.getElem?_cons_zero, List.getElem?_cons_succ, Option.getD_some, List.setIfInBounds_toArray, List.set_cons_zero, List.set_cons_succ])
            | (refine wpT_assign rfl ?_; simp only [Act.eval, Act.put, Array.getD_eq_getD_getElem?, List.getElem?_toArray, List.getElem?_cons_zero, List.getElem?_cons_succ, Option.getD_some, List.setIfInBounds_toArray, List.set_cons_zero, List.set_cons_succ])
            | (refine wpT_read (v := ?_) rfl ?_ ?_; rotate_left; (focus (intro w' hG; obtain ⟨⟨q0, q1⟩, p0, p1, p2, p3, p4, p5⟩ := hfx w' hG; go_simp; try (with_reducible rfl))); simp only [Act.put, List.setIfInBounds_toArray, List.set_cons_zero, List.set_cons_succ])
            | (refine wpT_skip rfl ?_; simp only [Act.put, List.setIfInBounds_toArray, List.set_cons_zero, List.set_cons_succ]))
          refine wpT_fork ?_ ?_
          · skip
            have hb := HB.out
            have hd := HD.out wr.drew (fun i => i ≠ P ∧ i ≠ b ∧ i ≠ B) (hb.2.2.2.2.2.2.2.2.2.2.2.2.1.grow gd) (fun i hi => ⟨hi.1, hi.2.1⟩) (fun i hi => by have e0 : wr.drew.heap.size = wr.heap.size := rfl; omega) (RdS.grow hb.2.2.2.2.2.2.2.2.2.2.2.1 gd) (hb.2.2.2.2.2.2.2.2.2.1.trans gd)
            refine wpT_call (f := ?_) (args := ?_) (by rfl) ?_ ?_
            rotate_left 2; focus (go_simp; constructor <;> with_reducible rfl)
            refine (hd).mono ?_
            rintro e w5 ⟨a5, c5, rfl, r5, k5, u5⟩
            refine ⟨_, rfl, u5.mono (fun i hi => hi.elim .inl (fun e => .inr (.inl e))), ?_⟩
            simp only [Act.put, List.setIfInBounds_toArray, List.set_cons_zero, List.set_cons_succ]
            repeat (first
              | (refine wpT_move rfl ?_; simp only [Act.eval, Act.put, Array.getD_eq_getD_getElem?, List.getElem?_toArray, List.getElem?_cons_zero, List.getElem?_cons_succ, Option.getD_some, List.setIfInBounds_toArray, List.set_cons_zero, List.set_cons_succ])
              | (refine wpT_assign rfl ?_; simp only [Act.eval, Act.put, Array.getD_eq_getD_getElem?, List.getElem?_toArray, List.getElem?_cons_zero, List.getElem?_cons_succ, Option.getD_some, List.setIfInBounds_toArray, List.set_cons_zero, List.set_cons_succ])
              | (refine wpT_read (v := ?_) rfl ?_ ?_; rotate_left; (focus (intro w' hG; skip; go_simp; try (with_reducible rfl))); simp only [Act.put, List.setIfInBounds_toArray, List.set_cons_zero, List.set_cons_succ])
              | (refine wpT_skip rfl ?_; simp only [Act.put, List.setIfInBounds_toArray, List.set_cons_zero, List.set_cons_succ]))
            refine wpT_act (by rfl) (exec_allocW #[.slice none 0 0, .int .i64 0] zeroTP) (Grow.s ((Grow.refl _).alloc _)) ?_
            simp only [Act.put, List.setIfInBounds_toArray, List.set_cons_zero, List.set_cons_succ]
            have V6 := VarAt.new w5 [.slice none 0 0, .int .i64 0] 30
            have g6 : Grow w5 (w5.alloc (.cells #[.slice none 0 0, .int .i64 0] 30)) := (Grow.refl _).alloc _
            have r6 := RdS.grow (rd_old r5) g6
            have hs5 := u5.size
            generalize w5.alloc (.cells #[.slice none 0 0, .int .i64 0] 30) = w6 at V6 g6 r6 ⊢
            generalize w5.heap.size = M at V6 r6 hs5 ⊢
            have e0 : wr.drew.heap.size = wr.heap.size := rfl
            have u7 := upd_pair w6 M (.slice a5 K c5) (.int .i64 h')
            have HF : Hid (VarAt ((w6.setCell ⟨M, 0, none⟩ (.slice a5 K c5)).setCell ⟨M, 1, none⟩ (.int .i64 h')) M [.slice a5 K c5, .int .i64 h'] ∧ PtO ((w6.setCell ⟨M, 0, none⟩ (.slice a5 K c5)).setCell ⟨M, 1, none⟩ (.int .i64 h')) P b 0 L' h' ∧ RdQ (fun i => i ≠ P ∧ i ≠ b ∧ i ≠ B) ((w6.setCell ⟨M, 0, none⟩ (.slice a5 K c5)).setCell ⟨M, 1, none⟩ (.int .i64 h')) (.slice a5 K c5) L' ∧ VarAt ((w6.setCell ⟨M, 0, none⟩ (.slice a5 K c5)).setCell ⟨M, 1, none⟩ (.int .i64 h')) B [.slice a K c, .int .i64 h] ∧ Grow w ((w6.setCell ⟨M, 0, none⟩ (.slice a5 K c5)).setCell ⟨M, 1, none⟩ (.int .i64 h'))) :=
              ⟨V6.set2 _ _, (k5.grow g6).upd u7 (by omega) (by omega), (RdS.upd r6 u7 (fun i _ hi => by omega)).mono (fun i _ hi => hi.1), ((((hb.2.2.2.2.2.2.2.2.2.2.1.grow gd).upd u5 (by omega)).grow g6).upd u7 (by omega)), UpdS.new ((UpdS.new (hb.2.2.2.2.2.2.2.2.2.1.trans gd) u5 (fun i hi => by omega)).trans g6) u7 (fun i hi => by have := hb.2.2.2.2.2.2.2.2.2.1.size; omega)⟩
            obtain ⟨⟨y0, y1⟩, f0, f1⟩ := V6.two
            refine wpT_store (w' := (w6.setCell ⟨M, 0, none⟩ (.slice a5 K c5)).setCell ⟨M, 1, none⟩ (.int .i64 h')) (by rfl) (by go_simp) (u7.mono (fun i hi => .inr (.inr (by omega)))) ?_
            simp only [Act.put, List.setIfInBounds_toArray, List.set_cons_zero, List.set_cons_succ]
            repeat (first
              | (refine wpT_move rfl ?_; simp only [Act.eval, Act.put, Array.getD_eq_getD_getElem?, List.getElem?_toArray, List.getElem?_cons_zero, List.getElem?_cons_succ, Option.getD_some, List.setIfInBounds_toArray, List.set_cons_zero, List.set_cons_succ])
              | (refine wpT_assign rfl ?_; simp only [Act.eval, Act.put, Array.getD_eq_getD_getElem?, List.getElem?_toArray, List.getElem?_cons_zero, List.getElem?_cons_succ, Option.getD_some, List.setIfInBounds_toArray, List.set_cons_zero, List.set_cons_succ])
              | (refine wpT_read (v := ?_) rfl ?_ ?_; rotate_left; (focus (intro w' hG; skip; go_simp; try (with_reducible rfl))); simp only [Act.put, List.setIfInBounds_toArray, List.set_cons_zero, List.set_cons_succ])
              | (refine wpT_skip rfl ?_; simp only [Act.put, List.setIfInBounds_toArray, List.set_cons_zero, List.set_cons_succ]))
            generalize (w6.setCell ⟨M, 0, none⟩ (.slice a5 K c5)).setCell ⟨M, 1, none⟩ (.int .i64 h') = w7 at HF ⊢
            clear hd r5 k5 u5 V6 g6 r6 hs5 u7 y0 y1 f0 f1 hfx hf0
            refine wpT_done ?_
            go_wp2
            go_meet
            exact ⟨_, _, _, rfl, rfl, HF⟩
          · skip
            have hb := HB.out
            refine wpT_act (by rfl) (exec_allocW #[.slice none 0 0, .int .i64 0] zeroTP) (Grow.s ((Grow.refl _).alloc _)) ?_
            simp only [Act.put, List.setIfInBounds_toArray, List.set_cons_zero, List.set_cons_succ]
            have e0 : wr.drew.heap.size = wr.heap.size := rfl
            have V4 := VarAt.new wr.drew [.slice none 0 0, .int .i64 0] 30
            have g4 : Grow wr.drew (wr.drew.alloc (.cells #[.slice none 0 0, .int .i64 0] 30)) := (Grow.refl _).alloc _
            obtain ⟨w4, hw4⟩ : ∃ w4, wr.drew.alloc (.cells #[.slice none 0 0, .int .i64 0] 30) = w4 := ⟨_, rfl⟩
            obtain ⟨M, hM⟩ : ∃ M, wr.heap.size = M := ⟨_, rfl⟩
            rw [e0, hM, hw4] at V4
            rw [hw4] at g4 ⊢
            (try rw [show wr.drew.heap.size = wr.heap.size from rfl])
            (try rw [hM])
            have hM4 := V4.lt
            have hd := HD.out w4 (fun i => i ≠ P ∧ i ≠ b ∧ i ≠ B ∧ i ≠ M) ((hb.2.2.2.2.2.2.2.2.2.2.2.2.1.grow gd).grow g4) (fun i hi => ⟨hi.1, hi.2.1⟩) (fun i hi => by omega) ((RdS.grow (RdS.grow (rd_old hb.2.2.2.2.2.2.2.2.2.2.2.1) gd) g4).mono (fun i _ hi => ⟨hi.1.1, hi.1.2.1, hi.1.2.2, by omega⟩)) ((hb.2.2.2.2.2.2.2.2.2.1.trans gd).trans g4)
            refine wpT_call (f := ?_) (args := ?_) (by rfl) ?_ ?_
            rotate_left 2; focus (go_simp; constructor <;> with_reducible rfl)
            refine (hd).mono ?_
            rintro e w6 ⟨a5, c5, rfl, r6, k6, u6⟩
            refine ⟨_, rfl, u6.mono (fun i hi => hi.elim .inl (fun e => .inr (.inl e))), ?_⟩
            simp only [Act.put, List.setIfInBounds_toArray, List.set_cons_zero, List.set_cons_succ]
            repeat (first
              | (refine wpT_move rfl ?_; simp only [Act.eval, Act.put, Array.getD_eq_getD_getElem?, List.getElem?_toArray, List.getElem?_cons_zero, List.getElem?_cons_succ, Option.getD_some, List.setIfInBounds_toArray, List.set_cons_zero, List.set_cons_succ])
              | (refine wpT_assign rfl ?_; simp only [Act.eval, Act.put, Array.getD_eq_getD_getElem?, List.getElem?_toArray, List.getElem?_cons_zero, List.getElem?_cons_succ, Option.getD_some, List.setIfInBounds_toArray, List.set_cons_zero, List.set_cons_succ])
              | (refine wpT_read (v := ?_) rfl ?_ ?_; rotate_left; (focus (intro w' hG; skip; go_simp; try (with_reducible rfl))); simp only [Act.put, List.setIfInBounds_toArray, List.set_cons_zero, List.set_cons_succ])
              | (refine wpT_skip rfl ?_; simp only [Act.put, List.setIfInBounds_toArray, List.set_cons_zero, List.set_cons_succ]))
            have V6 := V4.upd u6 (by omega)
            have u7 := upd_pair w6 M (.slice a5 K c5) (.int .i64 h')
            have HF : Hid (VarAt ((w6.setCell ⟨M, 0, none⟩ (.slice a5 K c5)).setCell ⟨M, 1, none⟩ (.int .i64 h')) M [.slice a5 K c5, .int .i64 h'] ∧ PtO ((w6.setCell ⟨M, 0, none⟩ (.slice a5 K c5)).setCell ⟨M, 1, none⟩ (.int .i64 h')) P b 0 L' h' ∧ RdQ (fun i => i ≠ P ∧ i ≠ b ∧ i ≠ B) ((w6.setCell ⟨M, 0, none⟩ (.slice a5 K c5)).setCell ⟨M, 1, none⟩ (.int .i64 h')) (.slice a5 K c5) L' ∧ VarAt ((w6.setCell ⟨M, 0, none⟩ (.slice a5 K c5)).setCell ⟨M, 1, none⟩ (.int .i64 h')) B [.slice a K c, .int .i64 h] ∧ Grow w ((w6.setCell ⟨M, 0, none⟩ (.slice a5 K c5)).setCell ⟨M, 1, none⟩ (.int .i64 h'))) :=
              ⟨V6.set2 _ _, k6.upd u7 (by omega) (by omega), (RdS.upd r6 u7 (fun i _ hi => hi.2.2.2)).mono (fun i _ hi => ⟨hi.1, hi.2.1, hi.2.2.1⟩), ((((hb.2.2.2.2.2.2.2.2.2.2.1.grow gd).grow g4).upd u6 (by omega)).upd u7 (by omega)), UpdS.new (UpdS.new ((hb.2.2.2.2.2.2.2.2.2.1.trans gd).trans g4) u6 (fun i hi => by omega)) u7 (fun i hi => by have := hb.2.2.2.2.2.2.2.2.2.1.size; omega)⟩
            obtain ⟨⟨y0, y1⟩, f0, f1⟩ := V6.two
            refine wpT_store (w' := (w6.setCell ⟨M, 0, none⟩ (.slice a5 K c5)).setCell ⟨M, 1, none⟩ (.int .i64 h')) (by rfl) (by go_simp) (u7.mono (fun i hi => .inr (.inr (by omega)))) ?_
            simp only [Act.put, List.setIfInBounds_toArray, List.set_cons_zero, List.set_cons_succ]
            repeat (first
              | (refine wpT_move rfl ?_; simp only [Act.eval, Act.put, Array.getD_eq_getD_getElem?, List.getElem?_toArray, List.getElem?_cons_zero, List.getElem?_cons_succ, Option.getD_some, List.setIfInBounds_toArray, List.set_cons_zero, List.set_cons_succ])
              | (refine wpT_assign rfl ?_; simp only [Act.eval, Act.put, Array.getD_eq_getD_getElem?, List.getElem?_toArray, List.getElem?_cons_zero, List.getElem?_cons_succ, Option.getD_some, List.setIfInBounds_toArray, List.set_cons_zero, List.set_cons_succ])
              | (refine wpT_read (v := ?_) rfl ?_ ?_; rotate_left; (focus (intro w' hG; skip; go_simp; try (with_reducible rfl))); simp only [Act.put, List.setIfInBounds_toArray, List.set_cons_zero, List.set_cons_succ])
              | (refine wpT_skip rfl ?_; simp only [Act.put, List.setIfInBounds_toArray, List.set_cons_zero, List.set_cons_succ]))
            generalize (w6.setCell ⟨M, 0, none⟩ (.slice a5 K c5)).setCell ⟨M, 1, none⟩ (.int .i64 h') = w7 at HF ⊢
            clear hd V4 g4 hw4 hM hM4 r6 k6 u6 V6 u7 y0 y1 f0 f1 hfx hf0
            refine wpT_done ?_
            go_wp2
            go_meet
            exact ⟨_, _, _, rfl, rfl, HF⟩
        case rest =>
          clear hfx hf0
          obtain ⟨Nn, a5, c5, rfl, rfl, HC⟩ := hcut
          obtain ⟨⟨x0, x1⟩, -⟩ := HC.out.1.two
          obtain ⟨⟨y0, y1⟩, f0, f1⟩ := HC.out.2.2.2.1.two
          have HI5 : Hid (LawI w P b B K ((wc.setCell ⟨B, 0, none⟩ (.slice a5 K c5)).setCell ⟨B, 1, none⟩ (.int .i64 h')) L' h') := by
            have hb := HB.out
            have u2 := upd_pair wc B (.slice a5 K c5) (.int .i64 h')
            exact ⟨HC.out.2.1.upd u2 (by omega) (by omega), HA.out.1, HA.out.2, ⟨a5, c5, HC.out.2.2.2.1.set2 _ _, RdS.upd HC.out.2.2.1 u2 (fun i _ hi => hi.2.2)⟩, UpdS.new HC.out.2.2.2.2 u2 (fun i hi => by omega), by omega, by omega, by omega, by omega, by omega⟩
          go_upto_region 11 with fail
          generalize (wc.setCell ⟨B, 0, none⟩ (.slice a5 K c5)).setCell ⟨B, 1, none⟩ (.int .i64 h') = w5 at HI5 ⊢
          clear x0 x1 y0 y1 f0 f1 HC HB HZC HD
          go_wp2
          go_loopg [14] 6 (fun m iv wx => ∃ q : Nat, m = 6 - q ∧ q ≤ 6 ∧ iv = .int .i64 q ∧ Hid (LawI w P b B K wx L' h'))
          case atStart => exact ⟨0, rfl, by omega, rfl, HI5⟩
          case round =>
            clear HI5
            obtain ⟨q, hq, hq6, rfl, HI2⟩ := hrel
            have HG2 : Hid (gk = 6 - q) := hq
            clear hq
            by_cases hlt : q < 6
            · have hle : (q : Int) < 6 := by omega
              have HQ6 : Hid (q + 1 ≤ 6) := hlt
              have hwq : IntKind.i64.wrap ((q : Int) + 1) = ((q + 1 : Nat) : Int) := by rw [IntKind.wrap_i64]; omega
              clear hlt
              go_upto_if 65 with fail
              go_cut [15] from 59 to 122 (fun av wx => ∃ x : Int, av = .int .i64 x ∧ Hid (LawI w P b B K wx L' h'))
              case first =>
                by_cases h5 : q = 5
                · have hb5 : ((q : Int) == 5) = true := by rw [h5]; rfl
                  go_wp2
                  go_meet
                  exact ⟨_, rfl, HI2⟩
                · have hb5 : ((q : Int) == 5) = false := by rw [beq_eq_false_iff_ne]; omega
                  go_wp2
                  go_meet
                  exact ⟨_, rfl, HI2⟩
              case rest =>
                obtain ⟨x, rfl, HC⟩ := hcut
                clear HI2
                by_cases hf : fnd x L' < L'.length
                · skip
                  have hk := HC.out.2.1
                  have hfi := find_any wc P b 0 L' h' HC.out.1 hk.2.2 x
                  have hqf := fun w' (a : Option Addr) (c : Nat) (pq : Nat → Prop) (hr : RdQ pq w' (.slice a L'.length c) L') => qfind_any w' a c L' (h' : Int) hr hk.2.2 x
                  rw [(fnd_yes hf).1, (fnd_yes hf).2] at hfi
                  simp only [fndQ_yes hf] at hqf
                  have HCN : Hid (cntP x L' K = 1) := by
                    have := cntP_uq (q := x) HUC.out K (by rw [HC.out.2.2.1]; exact Nat.le_refl _)
                    rwa [if_pos (by rw [← HC.out.2.2.1]; exact hf)] at this
                  obtain ⟨zz, hzz⟩ : ∃ zz : Int, zz = (fnd x L' : Int) := ⟨_, rfl⟩
                  have hz0 : 0 ≤ zz := by omega
                  have hzd : decide (0 ≤ zz) = true := decide_eq_true hz0
                  rw [← hzz] at hfi
                  simp only [← hzz] at hqf
                  clear hf hk
                  go_wp2_with fail
                  refine hfi.mono ?_
                  rintro e w1 ⟨rfl, rfl⟩
                  obtain ⟨a6, c6, i4, i5⟩ := HC.out.2.2.2.1
                  obtain ⟨⟨v0, v1⟩, -⟩ := i4.two
                  have hq1 := hqf wc a6 c6 _ (by rw [HC.out.2.2.1]; exact i5)
                  rw [HC.out.2.2.1] at hq1
                  clear hfi hqf i4 i5
                  go_wp2_with fail
                  refine hq1.mono ?_
                  rintro e w2 ⟨rfl, g2⟩
                  have HI3 : Hid (LawI w P b B K w2 L' h') := HC.out.grow g2
                  clear hq1 g2 v0 v1 HC
                  go_wp2
                  go_loopg [19, 20] K (fun m mv jv wx => ∃ (j : Nat) (cc : Int), m = K - j ∧ j ≤ K ∧ mv = .int .i64 cc ∧ jv = .int .i64 j ∧ Hid (cc = cntP x L' j) ∧ Hid (LawI w P b B K wx L' h'))
                  case atStart => exact ⟨0, 0, rfl, Nat.zero_le _, rfl, rfl, rfl, HI3⟩
                  case round =>
                    clear HI3
                    obtain ⟨j, cc, hj, hjK, rfl, rfl, HCC, HW⟩ := hrel
                    have HG3 : Hid (gk = K - j) := hj
                    clear hj
                    by_cases hlt : j < K
                    · have hle : (j : Int) < (K : Int) := by omega
                      have HJ3 : Hid (j + 1 ≤ K) := hlt
                      have hw1 : IntKind.i64.wrap ((j : Int) + 1) = ((j + 1 : Nat) : Int) := by rw [IntKind.wrap_i64]; have := HK.out; omega
                      have hcb : 0 ≤ cc ∧ cc ≤ 1 := by
                        have h1 := HCC.out
                        have h2 := cntP_uq (q := x) HUC.out j (by rw [HW.out.2.2.1]; exact hjK)
                        rw [h2] at h1
                        split at h1 <;> omega
                      have hwc : IntKind.i64.wrap (cc + 1) = cc + 1 := by rw [IntKind.wrap_i64]; omega
                      have hat := at_any wr P b 0 L' h' HW.out.1 HW.out.2.1.2.2 (j : Int)
                      rw [atL_yes (by rw [HW.out.2.2.1]; exact hlt)] at hat
                      simp only [FS.arr] at hat
                      have HCS : Hid ((cntP x L' (j + 1) : Int) = (cntP x L' j : Int) + (if (L'.getD j FS.empty).of x then 1 else 0)) := by
                        show ((cntP x L' j + (if (L'.getD j FS.empty).of x = true then 1 else 0) : Nat) : Int) = _
                        split <;> simp
                      generalize L'.getD j FS.empty = s at hat HCS
                      clear hlt hcb
                      go_wp2_with fail
                      refine hat.mono ?_
                      rintro e w4 ⟨rfl, hsl, g4⟩
                      have hst := put37 w4 s hsl
                      have hl37 := FS.cells_len hsl
                      have hfx := put37_at w4 s hsl
                      have HW5 : Hid (LawI w P b B K ((w4.alloc (.cells zeroF 47)).setCells w4.heap.size 0 s.cells) L' h') := (HW.out.grow g4).grow hfx.2
                      rw [← zeroF_lit] at hst hfx HW5
                      clear hat g4
                      go_upto_region 26 with fail
                      generalize (w4.alloc (.cells #[.bool false, .bool false, .bool false, .int .i64 0, .int .i64 0, .int .u8 0, .int .u8 0, .int .u8 0, .int .u8 0, .int .u8 0, .int .u8 0, .int .u8 0, .int .u8 0, .int .u8 0, .int .u8 0, .int .u8 0, .int .u8 0, .int .u8 0, .int .u8 0, .int .u8 0, .int .u8 0, .int .u8 0, .int .u8 0, .int .u8 0, .int .u8 0, .int .u8 0, .int .u8 0, .int .u8 0, .int .u8 0, .int .u8 0, .int .u8 0, .int .u8 0, .int .u8 0, .int .u8 0, .int .u8 0, .int .u8 0, .int .u8 0] 47)).setCells w4.heap.size 0 s.cells = w5 at hfx HW5 ⊢
                      generalize w4.heap.size = M at hfx ⊢
                      obtain ⟨⟨m0, -, -, -, m4⟩, -⟩ := FrO.five hfx.1
                      clear hst hl37 hfx
                      obtain ⟨u, hu⟩ : ∃ u, s.u = u := ⟨_, rfl⟩
                      obtain ⟨pg, hpg⟩ : ∃ pg, s.q = pg := ⟨_, rfl⟩
                      have HOF : Hid (s.of x = (u && (pg == x))) := by show s.of x = _; rw [← hu, ← hpg]; rfl
                      rw [hu] at m0
                      rw [hpg] at m4
                      clear hu hpg
                      cases u with
                      | false =>
                        have HN : Hid (cc = cntP x L' (j + 1)) := by show cc = _; have := HCS.out; rw [HOF.out] at this; rw [this, HCC.out]; simp
                        go_wp2
                        go_roundg (K - (j + 1))
                        case measure => have := HG3.out; have := HJ3.out; omega
                        case rel => exact ⟨j + 1, cc, rfl, HJ3.out, rfl, by go_num, HN.out, HW5.out⟩
                      | true =>
                        cases hq : (pg == x) with
                        | false =>
                          have HN : Hid (cc = cntP x L' (j + 1)) := by show cc = _; have := HCS.out; rw [HOF.out, hq] at this; rw [this, HCC.out]; simp
                          go_wp2
                          go_roundg (K - (j + 1))
                          case measure => have := HG3.out; have := HJ3.out; omega
                          case rel => exact ⟨j + 1, cc, rfl, HJ3.out, rfl, by go_num, HN.out, HW5.out⟩
                        | true =>
                          have HN : Hid (cc + 1 = cntP x L' (j + 1)) := by show cc + 1 = _; have := HCS.out; rw [HOF.out, hq] at this; rw [this, HCC.out]; simp
                          go_wp2
                          go_roundg (K - (j + 1))
                          case measure => have := HG3.out; have := HJ3.out; omega
                          case rel => exact ⟨j + 1, cc + 1, rfl, HJ3.out, rfl, by go_num, HN.out, HW5.out⟩
                    · have hge : ¬ (j : Int) < (K : Int) := by omega
                      obtain rfl : j = K := by omega
                      have hcc : cc = 1 := by rw [HCC.out, HCN.out]; rfl
                      subst hcc
                      go_wp2
                      go_roundg (6 - (q + 1))
                      case measure => have := HG2.out; have := HQ6.out; omega
                      case rel => exact ⟨q + 1, rfl, HQ6.out, by go_num, HW⟩
                · skip
                  have hk := HC.out.2.1
                  have hfi := find_any wc P b 0 L' h' HC.out.1 hk.2.2 x
                  have hqf := fun w' (a : Option Addr) (c : Nat) (pq : Nat → Prop) (hr : RdQ pq w' (.slice a L'.length c) L') => qfind_any w' a c L' (h' : Int) hr hk.2.2 x
                  rw [(fnd_no hf).1, (fnd_no hf).2] at hfi
                  simp only [fndQ_no hf] at hqf
                  have HCN : Hid (cntP x L' K = 0) := by
                    have := cntP_uq (q := x) HUC.out K (by rw [HC.out.2.2.1]; exact Nat.le_refl _)
                    rwa [if_neg (by rw [← HC.out.2.2.1]; exact hf)] at this
                  clear hf hk
                  go_wp2_with fail
                  refine hfi.mono ?_
                  rintro e w1 ⟨rfl, rfl⟩
                  obtain ⟨a6, c6, i4, i5⟩ := HC.out.2.2.2.1
                  obtain ⟨⟨v0, v1⟩, -⟩ := i4.two
                  have hq1 := hqf wc a6 c6 _ (by rw [HC.out.2.2.1]; exact i5)
                  rw [HC.out.2.2.1] at hq1
                  clear hfi hqf i4 i5
                  go_wp2_with fail
                  refine hq1.mono ?_
                  rintro e w2 ⟨rfl, g2⟩
                  have HI3 : Hid (LawI w P b B K w2 L' h') := HC.out.grow g2
                  clear hq1 g2 v0 v1 HC
                  go_wp2
                  go_loopg [19, 20] K (fun m mv jv wx => ∃ (j : Nat) (cc : Int), m = K - j ∧ j ≤ K ∧ mv = .int .i64 cc ∧ jv = .int .i64 j ∧ Hid (cc = cntP x L' j) ∧ Hid (LawI w P b B K wx L' h'))
                  case atStart => exact ⟨0, 0, rfl, Nat.zero_le _, rfl, rfl, rfl, HI3⟩
                  case round =>
                    clear HI3
                    obtain ⟨j, cc, hj, hjK, rfl, rfl, HCC, HW⟩ := hrel
                    have HG3 : Hid (gk = K - j) := hj
                    clear hj
                    by_cases hlt : j < K
                    · have hle : (j : Int) < (K : Int) := by omega
                      have HJ3 : Hid (j + 1 ≤ K) := hlt
                      have hw1 : IntKind.i64.wrap ((j : Int) + 1) = ((j + 1 : Nat) : Int) := by rw [IntKind.wrap_i64]; have := HK.out; omega
                      have hcb : 0 ≤ cc ∧ cc ≤ 1 := by
                        have h1 := HCC.out
                        have h2 := cntP_uq (q := x) HUC.out j (by rw [HW.out.2.2.1]; exact hjK)
                        rw [h2] at h1
                        split at h1 <;> omega
                      have hwc : IntKind.i64.wrap (cc + 1) = cc + 1 := by rw [IntKind.wrap_i64]; omega
                      have hat := at_any wr P b 0 L' h' HW.out.1 HW.out.2.1.2.2 (j : Int)
                      rw [atL_yes (by rw [HW.out.2.2.1]; exact hlt)] at hat
                      simp only [FS.arr] at hat
                      have HCS : Hid ((cntP x L' (j + 1) : Int) = (cntP x L' j : Int) + (if (L'.getD j FS.empty).of x then 1 else 0)) := by
                        show ((cntP x L' j + (if (L'.getD j FS.empty).of x = true then 1 else 0) : Nat) : Int) = _
                        split <;> simp
                      generalize L'.getD j FS.empty = s at hat HCS
                      clear hlt hcb
                      go_wp2_with fail
                      refine hat.mono ?_
                      rintro e w4 ⟨rfl, hsl, g4⟩
                      have hst := put37 w4 s hsl
                      have hl37 := FS.cells_len hsl
                      have hfx := put37_at w4 s hsl
                      have HW5 : Hid (LawI w P b B K ((w4.alloc (.cells zeroF 47)).setCells w4.heap.size 0 s.cells) L' h') := (HW.out.grow g4).grow hfx.2
                      rw [← zeroF_lit] at hst hfx HW5
                      clear hat g4
                      go_upto_region 26 with fail
                      generalize (w4.alloc (.cells #[.bool false, .bool false, .bool false, .int .i64 0, .int .i64 0, .int .u8 0, .int .u8 0, .int .u8 0, .int .u8 0, .int .u8 0, .int .u8 0, .int .u8 0, .int .u8 0, .int .u8 0, .int .u8 0, .int .u8 0, .int .u8 0, .int .u8 0, .int .u8 0, .int .u8 0, .int .u8 0, .int .u8 0, .int .u8 0, .int .u8 0, .int .u8 0, .int .u8 0, .int .u8 0, .int .u8 0, .int .u8 0, .int .u8 0, .int .u8 0, .int .u8 0, .int .u8 0, .int .u8 0, .int .u8 0, .int .u8 0, .int .u8 0] 47)).setCells w4.heap.size 0 s.cells = w5 at hfx HW5 ⊢
                      generalize w4.heap.size = M at hfx ⊢
                      obtain ⟨⟨m0, -, -, -, m4⟩, -⟩ := FrO.five hfx.1
                      clear hst hl37 hfx
                      obtain ⟨u, hu⟩ : ∃ u, s.u = u := ⟨_, rfl⟩
                      obtain ⟨pg, hpg⟩ : ∃ pg, s.q = pg := ⟨_, rfl⟩
                      have HOF : Hid (s.of x = (u && (pg == x))) := by show s.of x = _; rw [← hu, ← hpg]; rfl
                      rw [hu] at m0
                      rw [hpg] at m4
                      clear hu hpg
                      cases u with
                      | false =>
                        have HN : Hid (cc = cntP x L' (j + 1)) := by show cc = _; have := HCS.out; rw [HOF.out] at this; rw [this, HCC.out]; simp
                        go_wp2
                        go_roundg (K - (j + 1))
                        case measure => have := HG3.out; have := HJ3.out; omega
                        case rel => exact ⟨j + 1, cc, rfl, HJ3.out, rfl, by go_num, HN.out, HW5.out⟩
                      | true =>
                        cases hq : (pg == x) with
                        | false =>
                          have HN : Hid (cc = cntP x L' (j + 1)) := by show cc = _; have := HCS.out; rw [HOF.out, hq] at this; rw [this, HCC.out]; simp
                          go_wp2
                          go_roundg (K - (j + 1))
                          case measure => have := HG3.out; have := HJ3.out; omega
                          case rel => exact ⟨j + 1, cc, rfl, HJ3.out, rfl, by go_num, HN.out, HW5.out⟩
                        | true =>
                          have HN : Hid (cc + 1 = cntP x L' (j + 1)) := by show cc + 1 = _; have := HCS.out; rw [HOF.out, hq] at this; rw [this, HCC.out]; simp
                          go_wp2
                          go_roundg (K - (j + 1))
                          case measure => have := HG3.out; have := HJ3.out; omega
                          case rel => exact ⟨j + 1, cc + 1, rfl, HJ3.out, rfl, by go_num, HN.out, HW5.out⟩
                    · have hge : ¬ (j : Int) < (K : Int) := by omega
                      obtain rfl : j = K := by omega
                      have hcc : cc = 0 := by rw [HCC.out, HCN.out]; rfl
                      subst hcc
                      go_wp2
                      go_roundg (6 - (q + 1))
                      case measure => have := HG2.out; have := HQ6.out; omega
                      case rel => exact ⟨q + 1, rfl, HQ6.out, by go_num, HW⟩
            · have hge : ¬ (q : Int) < 6 := by omega
              clear hlt
              go_wp2
              go_roundg (16 - (j + 1))
              case measure => have := HG.out; have := HJ.out; omega
              case rel => exact ⟨j + 1, rfl, by have := HJ.out; omega, by go_num, _, _, HI2.out, HUC.out⟩
      · have hj16' : ¬ (j : Int) < 16 := by omega
        have hl := lives_any wr
        go_wp2_with fail
        refine hl.mono ?_
        rintro e w2 ⟨rfl, g2⟩
        go_wp2
        go_ret
        exact ⟨rfl, HL.out.2.2.2.2.1.trans g2⟩
    · have hjo' : ¬ (j : Int) < (os.length : Int) := by omega
      have hl := lives_any wr
      go_wp2_with fail
      refine hl.mono ?_
      rintro e w2 ⟨rfl, g2⟩
      go_wp2
      go_ret
      exact ⟨rfl, HL.out.2.2.2.2.1.trans g2⟩
end Go.Proofs.Ythdhfojogckflaa
