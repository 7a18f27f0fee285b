/-
  The walk of PartPlays. Conditions: the theorem's own.
-/
import Derived.Test.YthdhfojogckflaaPrtW
import Derived.Test.YthdhfojogckflaaOpenD
import Derived.Deep.LoopGhost
import Derived.Deep.CutRange
namespace Go.Proofs.Ythdhfojogckflaa
open Go.RowKit
set_option linter.unusedVariables false
set_option linter.unusedSimpArgs false

theorem zeroTP (w : World) : (zeroValue 30).run Try.prog w = .ok (.agg #[.slice none 0 0, .int .i64 0]) w := by kernel_rfl

set_option maxRecDepth 16000 in
set_option maxHeartbeats 8000000 in
theorem partPlays_walk (n : Int) (ao : Option Addr) (co : Nat) (os : List OD) (w : World) (hn : (Lit.int .i64 n).wf = true) (hos : RdS OD.cs 6 (fun i => i < w.heap.size) w (.slice ao os.length co) os) (hok : ∀ z ∈ os, OD.Ok w z) :
    Calls Try.prog 3 #[.int .i64 n, .slice ao os.length co] w fun e w' => e = .returned (.bool true) ∧ Grow w w' := by
  have hol := hos.len
  unfold maxLen at hol
  have ha := around_any n 4 w hn (by omega) (by omega)
  have hb := around_bd n 4 (by omega)
  obtain ⟨K, hK⟩ : ∃ K : Nat, (K : Int) = 1 + around n 4 := ⟨(1 + around n 4).toNat, by omega⟩
  generalize around n 4 = z5 at ha hb hK
  have hw5 : IntKind.i64.wrap (1 + z5) = (K : Int) := by rw [IntKind.wrap_i64]; omega
  have HK : Hid (1 ≤ K ∧ K ≤ 4) := ⟨by omega, by omega⟩
  have hnw := new_yes K w (by omega) (by omega)
  have hqn := fun w' => qnew_any K w' (by omega)
  have HS : Hid (RdS OD.cs 6 (fun i => i < w.heap.size) w (.slice ao os.length co) os ∧ ∀ z ∈ os, OD.Ok w z) := ⟨hos, hok⟩
  clear hb hK hos hok hn
  go_enter Try.func3, Try.ntmps3
  go_wp2_with fail
  refine ha.mono ?_
  rintro e w1 ⟨rfl, rfl⟩
  go_wp2_with fail
  refine hnw.mono ?_
  rintro e w2 ⟨rfl, k2, g2⟩
  obtain ⟨P, hP⟩ : ∃ P, w.heap.size + 1 = P := ⟨_, rfl⟩
  obtain ⟨b, hbb⟩ : ∃ b, w.heap.size = b := ⟨_, rfl⟩
  rw [hP, hbb] at k2
  rw [hP]
  have hq1 := hqn w2
  have H2 : Hid (PtO w2 P b 0 (List.replicate K FS.empty) 0 ∧ Grow w w2 ∧ w.heap.size ≤ P ∧ w.heap.size ≤ b) := ⟨k2, g2, by omega, by omega⟩
  clear k2 g2 hP hbb ha hnw hqn
  go_wp2_with fail
  refine hq1.mono ?_
  rintro e w3 ⟨a0, c0, rfl, r3, g3⟩
  have HI0 : Hid (∀ W B, w3.alloc (.cells #[.slice a0 K c0, .int .i64 0] 30) = W → w3.heap.size = B → ∃ (L : List FS) (h : Nat), LawI w P b B K W L h) := fun W B hW hB => by
    have gW : Grow w3 W := by rw [← hW]; exact (Grow.refl w3).alloc _
    have V : VarAt W B [.slice a0 K c0, .int .i64 0] := by rw [← hW, ← hB]; exact VarAt.new w3 [.slice a0 K c0, .int .i64 0] 30
    have h2 := H2.out
    have h3 := g3.size
    have h4 := h2.2.1.size
    have h5 := h2.1.lt
    have h6 := h2.1.2.2.1
    exact ⟨List.replicate K FS.empty, 0, (h2.1.grow g3).grow gW, repl_ok HK.out.1 (by have := HK.out.2; omega), List.length_replicate, ⟨a0, c0, V, (RdS.grow (rd_old r3) gW).mono (fun i _ hi => by omega)⟩, (h2.2.1.trans g3).trans gW, h2.2.2.1, h2.2.2.2, by omega, by omega, by omega⟩
  clear hq1 r3 g3
  go_upto_region 6 with fail
  generalize hB : w3.heap.size = B
  generalize hW : w3.alloc (.cells #[.slice a0 K c0, .int .i64 0] 30) = W
  have HI1 : Hid (∃ (L : List FS) (h : Nat), LawI w P b B K W L h) := HI0.out W B hW hB
  clear hB hW HI0 H2
  go_wp2
  go_loopg [9] 20 (fun m iv wr => ∃ j : Nat, m = 20 - j ∧ j ≤ 20 ∧ iv = .int .i64 j ∧ Hid (∃ (L : List FS) (h : Nat), LawI w P b B K wr L h))
  case atStart => exact ⟨0, rfl, by omega, rfl, HI1⟩
  case round =>
    clear HI1
    obtain ⟨j, hj, hj2, rfl, HI⟩ := hrel
    obtain ⟨L, h, i0⟩ := HI.out
    have HG : Hid (gk = 20 - j) := hj
    have HL : Hid (LawI w P b B K wr L h) := i0
    clear hj HI i0
    by_cases hjo : j < os.length
    · have hjo' : (j : Int) < (os.length : Int) := by omega
      by_cases hj20 : j < 20
      · have hj20' : (j : Int) < 20 := by omega
        have HJ : Hid (j < 20) := hj20
        have hw0 : IntKind.i64.wrap ((j : Int) + 1) = ((j + 1 : Nat) : Int) := by rw [IntKind.wrap_i64]; omega
        obtain ⟨bo, oo, z, rfl, hbo, hzok, -, hzc⟩ := od_at HS.out.1 HS.out.2 hjo
        obtain ⟨zd, zi, zp, zo, zn, zb⟩ := z
        obtain ⟨⟨hzd, hzi, hzp, hzo, hzn⟩, bs, hbs, hbo2⟩ := hzok
        simp only at hzc hzd hzi hzp hzo hzn hbs
        obtain ⟨ab, cb, hzb⟩ := hbs.shape
        subst hzb
        obtain ⟨i1, i2, i3, ⟨a, c, i4, i5⟩, i6, i7, i8, i9, i10, i11⟩ := HL.out
        have hPlt := i1.lt
        have hblt := i1.2.2.1
        have hBlt := i4.lt
        have HB : Hid (P < wr.heap.size ∧ b < wr.heap.size ∧ B < wr.heap.size ∧ w.heap.size ≤ P ∧ w.heap.size ≤ b ∧ w.heap.size ≤ B ∧ B ≠ P ∧ B ≠ b ∧ P ≠ b ∧ Grow w wr ∧ VarAt wr B [.slice a K c, .int .i64 h] ∧ RdQ (fun i => i ≠ P ∧ i ≠ b ∧ i ≠ B) wr (.slice a K c) L ∧ PtO wr P b 0 L h ∧ bo < w.heap.size) := ⟨hPlt, hblt, hBlt, i7, i8, i9, i10, i11, i1.2.1, i6, i4, i5, i1, hbo⟩
        have HZC : Hid (∀ w', Grow w w' → _) := hzc
        obtain ⟨⟨L', h'⟩, hstp⟩ : ∃ T, stp (around zd 13) (around zi ((L.length : Int) + 2) - 1) (around zp 5) zo zn bs L h = T := ⟨_, rfl⟩
        have hall := stp_all (around zd 13) (around zi ((L.length : Int) + 2) - 1) (around zp 5) zo zn i2 hbo2
        rw [hstp] at hall
        have HA : Hid (PtOk L' h' ∧ L'.length = K) := ⟨hall.1, hall.2.trans i3⟩
        have HD : Hid (∀ (W : World) (pq : Nat → Prop), PtO W P b 0 L h → (∀ i, pq i → i ≠ P ∧ i ≠ b) → (∀ i, W.heap.size ≤ i → pq i) → RdQ pq W (.slice a K c) L → Grow w W → Calls Try.prog 12 #[.pointer (some ⟨P, 0, none⟩), .agg #[.slice a K c, .int .i64 h], .agg #[.int .i64 zd, .int .i64 zi, .int .i64 zp, .int .i64 zo, .int .i64 zn, .slice ab bs.length cb]] W fun e w' => ∃ a' c', e = .returned (.tuple #[.agg #[.slice a' K c', .int .i64 (h' : Nat)], .bool true]) ∧ RdQ pq w' (.slice a' K c') L' ∧ PtO w' P b 0 L' h' ∧ UpdS (fun i => i = P ∨ i = b) W w') := fun W pq kW hpq hpn hrW gW => by
          have := does_any W P b 0 L h kW i2 a c pq hpq hpn (by rw [i3]; exact hrW) zd zi zp zo zn _ bs ((hbs.mono (fun i hi _ => by omega)).grow gW) hzd hzi hzp hzo hzn L' h' hstp
          rw [i3] at this
          exact this
        have gd : Grow wr wr.drew := (Grow.refl wr).drew
        have hfx : ∀ w', UpdS (fun i => i = P ∨ i = b ∨ wr.heap.size ≤ i) wr.drew w' → ((w'.cell? ⟨B, 0, none⟩ = some (.slice a K c) ∧ w'.cell? ⟨B, 1, none⟩ = some (.int .i64 h)) ∧ w'.cell? ⟨bo, oo + j * 6, none⟩ = some (.int .i64 zd) ∧ w'.cell? ⟨bo, oo + j * 6 + 1, none⟩ = some (.int .i64 zi) ∧ w'.cell? ⟨bo, oo + j * 6 + 2, none⟩ = some (.int .i64 zp) ∧ w'.cell? ⟨bo, oo + j * 6 + 3, none⟩ = some (.int .i64 zo) ∧ w'.cell? ⟨bo, oo + j * 6 + 4, none⟩ = some (.int .i64 zn) ∧ w'.cell? ⟨bo, oo + j * 6 + 5, none⟩ = some (.slice ab bs.length cb)) := fun w' g =>
          ⟨((i4.grow gd).upd g (by omega)).two.1, hzc w' (UpdS.new (i6.trans gd) g (fun i hi => by have := i6.size; omega))⟩
        have hf0 := hfx wr.drew (UpdS.refl _ _)
        clear i1 i2 i3 i4 i5 i6 i7 i8 i9 i10 i11 hall hstp hbs hbo2 hzc hPlt hblt hBlt hzd hzi hzp hzo hzn HL
        go_upto_region 9 with fail
        go_cut [10, 11] from 28 to 56 (fun nv sv wx => ∃ (Nn : Nat) (a5 : Option Addr) (c5 : Nat), nv = .pointer (some ⟨Nn, 0, none⟩) ∧ sv = .bool true ∧ Hid (VarAt wx Nn [.slice a5 K c5, .int .i64 h'] ∧ PtO wx P b 0 L' h' ∧ RdQ (fun i => i ≠ P ∧ i ≠ b ∧ i ≠ B) wx (.slice a5 K c5) L' ∧ VarAt wx B [.slice a K c, .int .i64 h] ∧ Grow w wx))
        case first =>
          go_wp2
          refine wp_region_treeG (UpdS (fun i => i = P ∨ i = b ∨ wr.heap.size ≤ i)) (UpdS.refl _) (fun _ _ _ => UpdS.trans) (by kernel_rfl) (.read 0 (.read 1 (.read 2 (.read 3 (.read 4 (.read 5 (.fork 6 (.read 7 (.read 8 (.read 9 (.act 10 (.act 11 (.read 12 .done)))))) 10 (.act 6 (.read 7 (.read 8 (.read 9 (.act 11 (.read 12 .done))))))))))))) (by kernel_rfl) (by kernel_rfl) rfl (fun _ _ d _ _ h => by cases d <;> exact h) ?_
          simp only [Tr.over, List.getElem?_toArray, List.getElem?_cons_zero, List.getElem?_cons_succ]
          repeat (first
            | (refine wpT_move rfl ?_; simp only [Act.eval, Act.put, Array.getD_eq_getD_getElem?, List.getElem?_toArray, List.getElem?_cons_zero, List.getElem?_cons_succ, Option.getD_some, List.setIfInBounds_toArray, List.set_cons_zero, List.set_cons_succ])
            | (refine wpT_assign rfl ?_; simp only [Act.eval, Act.put, Array.getD_eq_getD_getElem?, List.getElem?_toArray, List.getElem?_cons_zero, List.getElem?_cons_succ, Option.getD_some, List.setIfInBounds_toArray, List.set_cons_zero, List.set_cons_succ])
            | (refine wpT_read (v := ?_) rfl ?_ ?_; rotate_left; (focus (intro w' hG; obtain ⟨⟨q0, q1⟩, p0, p1, p2, p3, p4, p5⟩ := hfx w' hG; go_simp; try (with_reducible rfl))); simp only [Act.put, List.setIfInBounds_toArray, List.set_cons_zero, List.set_cons_succ])
            | (refine wpT_skip rfl ?_; simp only [Act.put, List.setIfInBounds_toArray, List.set_cons_zero, List.set_cons_succ]))
          refine wpT_fork ?_ ?_
          · skip
            have hb := HB.out
            have hd := HD.out wr.drew (fun i => i ≠ P ∧ i ≠ b ∧ i ≠ B) (hb.2.2.2.2.2.2.2.2.2.2.2.2.1.grow gd) (fun i hi => ⟨hi.1, hi.2.1⟩) (fun i hi => by have e0 : wr.drew.heap.size = wr.heap.size := rfl; omega) (RdS.grow hb.2.2.2.2.2.2.2.2.2.2.2.1 gd) (hb.2.2.2.2.2.2.2.2.2.1.trans gd)
            refine wpT_call (f := ?_) (args := ?_) (by rfl) ?_ ?_
            rotate_left 2; focus (go_simp; constructor <;> with_reducible rfl)
            refine (hd).mono ?_
            rintro e w5 ⟨a5, c5, rfl, r5, k5, u5⟩
            refine ⟨_, rfl, u5.mono (fun i hi => hi.elim .inl (fun e => .inr (.inl e))), ?_⟩
            simp only [Act.put, List.setIfInBounds_toArray, List.set_cons_zero, List.set_cons_succ]
            repeat (first
              | (refine wpT_move rfl ?_; simp only [Act.eval, Act.put, Array.getD_eq_getD_getElem?, List.getElem?_toArray, List.getElem?_cons_zero, List.getElem?_cons_succ, Option.getD_some, List.setIfInBounds_toArray, List.set_cons_zero, List.set_cons_succ])
              | (refine wpT_assign rfl ?_; simp only [Act.eval, Act.put, Array.getD_eq_getD_getElem?, List.getElem?_toArray, List.getElem?_cons_zero, List.getElem?_cons_succ, Option.getD_some, List.setIfInBounds_toArray, List.set_cons_zero, List.set_cons_succ])
              | (refine wpT_read (v := ?_) rfl ?_ ?_; rotate_left; (focus (intro w' hG; skip; go_simp; try (with_reducible rfl))); simp only [Act.put, List.setIfInBounds_toArray, List.set_cons_zero, List.set_cons_succ])
              | (refine wpT_skip rfl ?_; simp only [Act.put, List.setIfInBounds_toArray, List.set_cons_zero, List.set_cons_succ]))
            refine wpT_act (by rfl) (exec_allocW #[.slice none 0 0, .int .i64 0] zeroTP) (Grow.s ((Grow.refl _).alloc _)) ?_
            simp only [Act.put, List.setIfInBounds_toArray, List.set_cons_zero, List.set_cons_succ]
            have V6 := VarAt.new w5 [.slice none 0 0, .int .i64 0] 30
            have g6 : Grow w5 (w5.alloc (.cells #[.slice none 0 0, .int .i64 0] 30)) := (Grow.refl _).alloc _
            have r6 := RdS.grow (rd_old r5) g6
            have hs5 := u5.size
            generalize w5.alloc (.cells #[.slice none 0 0, .int .i64 0] 30) = w6 at V6 g6 r6 ⊢
            generalize w5.heap.size = M at V6 r6 hs5 ⊢
            have e0 : wr.drew.heap.size = wr.heap.size := rfl
            have u7 := upd_pair w6 M (.slice a5 K c5) (.int .i64 h')
            have HF : Hid (VarAt ((w6.setCell ⟨M, 0, none⟩ (.slice a5 K c5)).setCell ⟨M, 1, none⟩ (.int .i64 h')) M [.slice a5 K c5, .int .i64 h'] ∧ PtO ((w6.setCell ⟨M, 0, none⟩ (.slice a5 K c5)).setCell ⟨M, 1, none⟩ (.int .i64 h')) P b 0 L' h' ∧ RdQ (fun i => i ≠ P ∧ i ≠ b ∧ i ≠ B) ((w6.setCell ⟨M, 0, none⟩ (.slice a5 K c5)).setCell ⟨M, 1, none⟩ (.int .i64 h')) (.slice a5 K c5) L' ∧ VarAt ((w6.setCell ⟨M, 0, none⟩ (.slice a5 K c5)).setCell ⟨M, 1, none⟩ (.int .i64 h')) B [.slice a K c, .int .i64 h] ∧ Grow w ((w6.setCell ⟨M, 0, none⟩ (.slice a5 K c5)).setCell ⟨M, 1, none⟩ (.int .i64 h'))) :=
              ⟨V6.set2 _ _, (k5.grow g6).upd u7 (by omega) (by omega), (RdS.upd r6 u7 (fun i _ hi => by omega)).mono (fun i _ hi => hi.1), ((((hb.2.2.2.2.2.2.2.2.2.2.1.grow gd).upd u5 (by omega)).grow g6).upd u7 (by omega)), UpdS.new ((UpdS.new (hb.2.2.2.2.2.2.2.2.2.1.trans gd) u5 (fun i hi => by omega)).trans g6) u7 (fun i hi => by have := hb.2.2.2.2.2.2.2.2.2.1.size; omega)⟩
            obtain ⟨⟨y0, y1⟩, f0, f1⟩ := V6.two
            refine wpT_store (w' := (w6.setCell ⟨M, 0, none⟩ (.slice a5 K c5)).setCell ⟨M, 1, none⟩ (.int .i64 h')) (by rfl) (by go_simp) (u7.mono (fun i hi => .inr (.inr (by omega)))) ?_
            simp only [Act.put, List.setIfInBounds_toArray, List.set_cons_zero, List.set_cons_succ]
            repeat (first
              | (refine wpT_move rfl ?_; simp only [Act.eval, Act.put, Array.getD_eq_getD_getElem?, List.getElem?_toArray, List.getElem?_cons_zero, List.getElem?_cons_succ, Option.getD_some, List.setIfInBounds_toArray, List.set_cons_zero, List.set_cons_succ])
              | (refine wpT_assign rfl ?_; simp only [Act.eval, Act.put, Array.getD_eq_getD_getElem?, List.getElem?_toArray, List.getElem?_cons_zero, List.getElem?_cons_succ, Option.getD_some, List.setIfInBounds_toArray, List.set_cons_zero, List.set_cons_succ])
              | (refine wpT_read (v := ?_) rfl ?_ ?_; rotate_left; (focus (intro w' hG; skip; go_simp; try (with_reducible rfl))); simp only [Act.put, List.setIfInBounds_toArray, List.set_cons_zero, List.set_cons_succ])
              | (refine wpT_skip rfl ?_; simp only [Act.put, List.setIfInBounds_toArray, List.set_cons_zero, List.set_cons_succ]))
            generalize (w6.setCell ⟨M, 0, none⟩ (.slice a5 K c5)).setCell ⟨M, 1, none⟩ (.int .i64 h') = w7 at HF ⊢
            clear hd r5 k5 u5 V6 g6 r6 hs5 u7 y0 y1 f0 f1 hfx hf0
            refine wpT_done ?_
            go_wp2
            go_meet
            exact ⟨_, _, _, rfl, rfl, HF⟩
          · skip
            have hb := HB.out
            refine wpT_act (by rfl) (exec_allocW #[.slice none 0 0, .int .i64 0] zeroTP) (Grow.s ((Grow.refl _).alloc _)) ?_
            simp only [Act.put, List.setIfInBounds_toArray, List.set_cons_zero, List.set_cons_succ]
            have e0 : wr.drew.heap.size = wr.heap.size := rfl
            have V4 := VarAt.new wr.drew [.slice none 0 0, .int .i64 0] 30
            have g4 : Grow wr.drew (wr.drew.alloc (.cells #[.slice none 0 0, .int .i64 0] 30)) := (Grow.refl _).alloc _
            obtain ⟨w4, hw4⟩ : ∃ w4, wr.drew.alloc (.cells #[.slice none 0 0, .int .i64 0] 30) = w4 := ⟨_, rfl⟩
            obtain ⟨M, hM⟩ : ∃ M, wr.heap.size = M := ⟨_, rfl⟩
            rw [e0, hM, hw4] at V4
            rw [hw4] at g4 ⊢
            (try rw [show wr.drew.heap.size = wr.heap.size from rfl])
            (try rw [hM])
            have hM4 := V4.lt
            have hd := HD.out w4 (fun i => i ≠ P ∧ i ≠ b ∧ i ≠ B ∧ i ≠ M) ((hb.2.2.2.2.2.2.2.2.2.2.2.2.1.grow gd).grow g4) (fun i hi => ⟨hi.1, hi.2.1⟩) (fun i hi => by omega) ((RdS.grow (RdS.grow (rd_old hb.2.2.2.2.2.2.2.2.2.2.2.1) gd) g4).mono (fun i _ hi => ⟨hi.1.1, hi.1.2.1, hi.1.2.2, by omega⟩)) ((hb.2.2.2.2.2.2.2.2.2.1.trans gd).trans g4)
            refine wpT_call (f := ?_) (args := ?_) (by rfl) ?_ ?_
            rotate_left 2; focus (go_simp; constructor <;> with_reducible rfl)
            refine (hd).mono ?_
            rintro e w6 ⟨a5, c5, rfl, r6, k6, u6⟩
            refine ⟨_, rfl, u6.mono (fun i hi => hi.elim .inl (fun e => .inr (.inl e))), ?_⟩
            simp only [Act.put, List.setIfInBounds_toArray, List.set_cons_zero, List.set_cons_succ]
            repeat (first
              | (refine wpT_move rfl ?_; simp only [Act.eval, Act.put, Array.getD_eq_getD_getElem?, List.getElem?_toArray, List.getElem?_cons_zero, List.getElem?_cons_succ, Option.getD_some, List.setIfInBounds_toArray, List.set_cons_zero, List.set_cons_succ])
              | (refine wpT_assign rfl ?_; simp only [Act.eval, Act.put, Array.getD_eq_getD_getElem?, List.getElem?_toArray, List.getElem?_cons_zero, List.getElem?_cons_succ, Option.getD_some, List.setIfInBounds_toArray, List.set_cons_zero, List.set_cons_succ])
              | (refine wpT_read (v := ?_) rfl ?_ ?_; rotate_left; (focus (intro w' hG; skip; go_simp; try (with_reducible rfl))); simp only [Act.put, List.setIfInBounds_toArray, List.set_cons_zero, List.set_cons_succ])
              | (refine wpT_skip rfl ?_; simp only [Act.put, List.setIfInBounds_toArray, List.set_cons_zero, List.set_cons_succ]))
            have V6 := V4.upd u6 (by omega)
            have u7 := upd_pair w6 M (.slice a5 K c5) (.int .i64 h')
            have HF : Hid (VarAt ((w6.setCell ⟨M, 0, none⟩ (.slice a5 K c5)).setCell ⟨M, 1, none⟩ (.int .i64 h')) M [.slice a5 K c5, .int .i64 h'] ∧ PtO ((w6.setCell ⟨M, 0, none⟩ (.slice a5 K c5)).setCell ⟨M, 1, none⟩ (.int .i64 h')) P b 0 L' h' ∧ RdQ (fun i => i ≠ P ∧ i ≠ b ∧ i ≠ B) ((w6.setCell ⟨M, 0, none⟩ (.slice a5 K c5)).setCell ⟨M, 1, none⟩ (.int .i64 h')) (.slice a5 K c5) L' ∧ VarAt ((w6.setCell ⟨M, 0, none⟩ (.slice a5 K c5)).setCell ⟨M, 1, none⟩ (.int .i64 h')) B [.slice a K c, .int .i64 h] ∧ Grow w ((w6.setCell ⟨M, 0, none⟩ (.slice a5 K c5)).setCell ⟨M, 1, none⟩ (.int .i64 h'))) :=
              ⟨V6.set2 _ _, k6.upd u7 (by omega) (by omega), (RdS.upd r6 u7 (fun i _ hi => hi.2.2.2)).mono (fun i _ hi => ⟨hi.1, hi.2.1, hi.2.2.1⟩), ((((hb.2.2.2.2.2.2.2.2.2.2.1.grow gd).grow g4).upd u6 (by omega)).upd u7 (by omega)), UpdS.new (UpdS.new ((hb.2.2.2.2.2.2.2.2.2.1.trans gd).trans g4) u6 (fun i hi => by omega)) u7 (fun i hi => by have := hb.2.2.2.2.2.2.2.2.2.1.size; omega)⟩
            obtain ⟨⟨y0, y1⟩, f0, f1⟩ := V6.two
            refine wpT_store (w' := (w6.setCell ⟨M, 0, none⟩ (.slice a5 K c5)).setCell ⟨M, 1, none⟩ (.int .i64 h')) (by rfl) (by go_simp) (u7.mono (fun i hi => .inr (.inr (by omega)))) ?_
            simp only [Act.put, List.setIfInBounds_toArray, List.set_cons_zero, List.set_cons_succ]
            repeat (first
              | (refine wpT_move rfl ?_; simp only [Act.eval, Act.put, Array.getD_eq_getD_getElem?, List.getElem?_toArray, List.getElem?_cons_zero, List.getElem?_cons_succ, Option.getD_some, List.setIfInBounds_toArray, List.set_cons_zero, List.set_cons_succ])
              | (refine wpT_assign rfl ?_; simp only [Act.eval, Act.put, Array.getD_eq_getD_getElem?, List.getElem?_toArray, List.getElem?_cons_zero, List.getElem?_cons_succ, Option.getD_some, List.setIfInBounds_toArray, List.set_cons_zero, List.set_cons_succ])
              | (refine wpT_read (v := ?_) rfl ?_ ?_; rotate_left; (focus (intro w' hG; skip; go_simp; try (with_reducible rfl))); simp only [Act.put, List.setIfInBounds_toArray, List.set_cons_zero, List.set_cons_succ])
              | (refine wpT_skip rfl ?_; simp only [Act.put, List.setIfInBounds_toArray, List.set_cons_zero, List.set_cons_succ]))
            generalize (w6.setCell ⟨M, 0, none⟩ (.slice a5 K c5)).setCell ⟨M, 1, none⟩ (.int .i64 h') = w7 at HF ⊢
            clear hd V4 g4 hw4 hM hM4 r6 k6 u6 V6 u7 y0 y1 f0 f1 hfx hf0
            refine wpT_done ?_
            go_wp2
            go_meet
            exact ⟨_, _, _, rfl, rfl, HF⟩
        case rest =>
          clear hfx hf0
          obtain ⟨Nn, a5, c5, rfl, rfl, HC⟩ := hcut
          obtain ⟨⟨x0, x1⟩, -⟩ := HC.out.1.two
          obtain ⟨⟨y0, y1⟩, f0, f1⟩ := HC.out.2.2.2.1.two
          have HI5 : Hid (LawI w P b B K ((wc.setCell ⟨B, 0, none⟩ (.slice a5 K c5)).setCell ⟨B, 1, none⟩ (.int .i64 h')) L' h') := by
            have hb := HB.out
            have u2 := upd_pair wc B (.slice a5 K c5) (.int .i64 h')
            exact ⟨HC.out.2.1.upd u2 (by omega) (by omega), HA.out.1, HA.out.2, ⟨a5, c5, HC.out.2.2.2.1.set2 _ _, RdS.upd HC.out.2.2.1 u2 (fun i _ hi => hi.2.2)⟩, UpdS.new HC.out.2.2.2.2 u2 (fun i hi => by omega), by omega, by omega, by omega, by omega, by omega⟩
          go_upto_region 11 with fail
          generalize (wc.setCell ⟨B, 0, none⟩ (.slice a5 K c5)).setCell ⟨B, 1, none⟩ (.int .i64 h') = w5 at HI5 ⊢
          clear x0 x1 y0 y1 f0 f1 HC
          obtain ⟨i1, i2, i3, ⟨a6, c6, i4, i5⟩, i6, i7⟩ := HI5.out
          have hlk := like_any w5 P b 0 L' h' i1 i2 a6 c6 _ (by rw [i3]; exact i5)
          rw [i3] at hlk
          obtain ⟨⟨v0, v1⟩, -⟩ := i4.two
          clear i1 i2 i3 i4 i5 i6 i7
          go_wp2_with fail
          refine hlk.mono ?_
          rintro e w6 ⟨rfl, g6⟩
          have HF : Hid (∃ (L : List FS) (h : Nat), LawI w P b B K w6 L h) := ⟨_, _, HI5.out.grow g6⟩
          clear hlk g6 v0 v1
          go_wp2
          go_roundg (20 - (j + 1))
          case measure => have := HG.out; have := HJ.out; omega
          case rel => exact ⟨j + 1, rfl, by have := HJ.out; omega, by go_num, HF⟩
      · have hj20' : ¬ (j : Int) < 20 := by omega
        have hl := lives_any wr
        go_wp2_with fail
        refine hl.mono ?_
        rintro e w2 ⟨rfl, g2⟩
        go_wp2
        go_ret
        exact ⟨rfl, HL.out.2.2.2.2.1.trans g2⟩
    · have hjo' : ¬ (j : Int) < (os.length : Int) := by omega
      have hl := lives_any wr
      go_wp2_with fail
      refine hl.mono ?_
      rintro e w2 ⟨rfl, g2⟩
      go_wp2
      go_ret
      exact ⟨rfl, HL.out.2.2.2.2.1.trans g2⟩
end Go.Proofs.Ythdhfojogckflaa
