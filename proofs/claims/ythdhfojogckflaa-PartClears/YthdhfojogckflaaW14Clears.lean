/-
  The walk of PartClears. Conditions: the theorem's own.
-/
import Derived.Test.YthdhfojogckflaaW14Plays
import Derived.Test.YthdhfojogckflaaW14Uq
import Derived.Test.YthdhfojogckflaaW14Rounds
namespace Go.Proofs.Ythdhfojogckflaa
open Go.RowKit
set_option linter.unusedVariables false
set_option linter.unusedSimpArgs false

/-- one that is pinned is used -/
def Pu (L : List FS) : Prop := ∀ i, i < L.length → 0 < (L.getD i FS.empty).p → (L.getD i FS.empty).u = true
theorem Pu.set {L : List FS} (h : Pu L) {m : Nat} {s : FS} (hs : 0 < s.p → s.u = true) : Pu (L.set m s) := by
  intro i hi hp
  rw [List.length_set] at hi
  rw [getD_set hi] at hp ⊢
  by_cases e : m = i
  · rw [if_pos e] at hp ⊢; exact hs hp
  · rw [if_neg e] at hp ⊢; exact h i hi hp
theorem Pu.onP {L : List FS} (h : Pu L) (q : Int) {f : FS → FS × Int} (hf : ∀ s : FS, (0 < s.p → s.u = true) → (0 < (f s).1.p → (f s).1.u = true)) : Pu (onP q f L).1 := by
  unfold Proofs.Ythdhfojogckflaa.onP
  split
  · rename_i hl; exact h.set (hf _ (h _ hl))
  · exact h
theorem Pu.stp (k i q off n : Int) {ys : List Int} {L : List FS} {h : Nat} (hu : Pu L) (hk : PtOk L h) : Pu (stp k i q off n ys L h).1 := by
  unfold Proofs.Ythdhfojogckflaa.stp
  split
  · intro x hx hp
    simp only [vicL_len] at hx
    have e1 := vicL_is hk.2.1 hx
    simp only [e1] at hp ⊢
    exact hu x hx hp
  · split
    · unfold relP
      split
      · split
        · exact hu.set (fun h => by cases h)
        · exact hu
      · exact hu
    · split
      · unfold clnP
        split
        · rename_i hj
          have hi : inL i L := of_decide_eq_true (p := 0 ≤ i ∧ i < L.length) hj
          have hm : i.toNat < L.length := by have h1 : 0 ≤ i := hi.1; have h2 : i < L.length := hi.2; omega
          exact hu.set (fun h => hu _ hm h)
        · exact hu
      · split
        · exact hu.onP q (fun s hs => by
            unfold pinS
            split
            · rename_i hx
              split
              · exact hs
              · exact fun _ => rfl
            · exact hs)
        · split
          · exact hu.onP q (fun s hs => by
              unfold unpinS
              split
              · exact hs
              · rename_i hx; exact fun _ => hs (by omega))
          · split
            · unfold getP
              split
              · rename_i hl
                refine hu.set ?_
                have := hu _ hl
                unfold getS
                split
                · exact this
                · split
                  · exact this
                  · exact this
              · exact hu
            · split
              · exact hu.onP q (fun s hs => by
                  unfold putS
                  split
                  · exact hs
                  · split
                    · exact hs
                    · exact hs)
              · split
                · intro x hx hp
                  rw [repl_at (by simpa using hx)] at hp; cases hp
                · unfold loadP
                  split
                  · rename_i hj
                    have hi : inL i L := of_decide_eq_true (p := 0 ≤ i ∧ i < L.length) hj
                    have hm : i.toNat < L.length := by have h1 : 0 ≤ i := hi.1; have h2 : i < L.length := hi.2; omega
                    split
                    · exact hu
                    · refine hu.set ?_
                      by_cases hy : (byL n ys).length = 32
                      · rw [loadS_yes hy]; exact fun _ => rfl
                      · rw [loadS_no hy]; exact hu _ hm
                  · exact hu
theorem Uq.fnd {L : List FS} (h : Uq L) {q : Int} {j : Nat} (hj : j < L.length) (ho : (L.getD j FS.empty).of q = true) : fnd q L = j := by
  have hfl : Proofs.Ythdhfojogckflaa.fnd q L ≤ j := by
    rcases Nat.lt_or_ge j (Proofs.Ythdhfojogckflaa.fnd q L) with h1 | h1
    · have := fnd_not h1; rw [ho] at this; cases this
    · exact h1
  have hff := fnd_of (q := q) (L := L) (by omega)
  have h1 : (_ && (_ == _)) = true := ho
  have h2 : (_ && (_ == _)) = true := hff
  rw [Bool.and_eq_true, beq_iff_eq] at h1 h2
  exact h (Proofs.Ythdhfojogckflaa.fnd q L) j (by omega) hj h2.1 h1.1 (h2.2.trans h1.2.symm)

set_option maxRecDepth 16000 in
set_option maxHeartbeats 8000000 in
theorem partClears_walk (n : Int) (each : Bool) (ao : Option Addr) (co : Nat) (os : List OD) (w : World) (hn : (Lit.int .i64 n).wf = true) (hos : RdS OD.cs 6 (fun i => i < w.heap.size) w (.slice ao os.length co) os) (hok : ∀ z ∈ os, OD.Ok w z) :
    Calls Try.prog 6 #[.int .i64 n, .slice ao os.length co, .bool each] w fun e w' => e = .returned (.bool true) ∧ Grow w w' := by
  have hol := hos.len
  unfold maxLen at hol
  have ha := around_any n 4 w hn (by omega) (by omega)
  have hb := around_bd n 4 (by omega)
  obtain ⟨K, hK⟩ : ∃ K : Nat, (K : Int) = 1 + around n 4 := ⟨(1 + around n 4).toNat, by omega⟩
  generalize around n 4 = z5 at ha hb hK
  have hw5 : IntKind.i64.wrap (1 + z5) = (K : Int) := by rw [IntKind.wrap_i64]; omega
  have HK : Hid (1 ≤ K ∧ K ≤ 4) := ⟨by omega, by omega⟩
  have hnw := new_yes K w (by omega) (by omega)
  have hqn := fun w' => qnew_any K w' (by omega)
  have HS : Hid (RdS OD.cs 6 (fun i => i < w.heap.size) w (.slice ao os.length co) os ∧ ∀ z ∈ os, OD.Ok w z) := ⟨hos, hok⟩
  clear hb hK hos hok hn
  go_enter Try.func6, Try.ntmps6
  go_wp2_with fail
  refine ha.mono ?_
  rintro e w1 ⟨rfl, rfl⟩
  go_wp2_with fail
  refine hnw.mono ?_
  rintro e w2 ⟨rfl, k2, g2⟩
  obtain ⟨P, hP⟩ : ∃ P, w.heap.size + 1 = P := ⟨_, rfl⟩
  obtain ⟨b, hbb⟩ : ∃ b, w.heap.size = b := ⟨_, rfl⟩
  rw [hP, hbb] at k2
  rw [hP]
  have hq1 := hqn w2
  have H2 : Hid (PtO w2 P b 0 (List.replicate K FS.empty) 0 ∧ Grow w w2 ∧ w.heap.size ≤ P ∧ w.heap.size ≤ b) := ⟨k2, g2, by omega, by omega⟩
  clear k2 g2 hP hbb ha hnw hqn
  go_wp2_with fail
  refine hq1.mono ?_
  rintro e w3 ⟨a0, c0, rfl, r3, g3⟩
  have HI0 : Hid (∀ W B, w3.alloc (.cells #[.slice a0 K c0, .int .i64 0] 30) = W → w3.heap.size = B → ∃ (L : List FS) (h : Nat), LawI w P b B K W L h ∧ Uq L ∧ Pu L) := fun W B hW hB => by
    have gW : Grow w3 W := by rw [← hW]; exact (Grow.refl w3).alloc _
    have V : VarAt W B [.slice a0 K c0, .int .i64 0] := by rw [← hW, ← hB]; exact VarAt.new w3 [.slice a0 K c0, .int .i64 0] 30
    have h2 := H2.out
    have h3 := g3.size
    have h4 := h2.2.1.size
    have h5 := h2.1.lt
    have h6 := h2.1.2.2.1
    refine ⟨List.replicate K FS.empty, 0, ⟨(h2.1.grow g3).grow gW, repl_ok HK.out.1 (by have := HK.out.2; omega), List.length_replicate, ⟨a0, c0, V, (RdS.grow (rd_old r3) gW).mono (fun i _ hi => by omega)⟩, (h2.2.1.trans g3).trans gW, h2.2.2.1, h2.2.2.2, by omega, by omega, by omega⟩, Uq.empty K, fun x hx hp => by rw [repl_at (by simpa using hx)] at hp; cases hp⟩
  clear hq1 r3 g3
  go_upto_region 6 with fail
  generalize hB : w3.heap.size = B
  generalize hW : w3.alloc (.cells #[.slice a0 K c0, .int .i64 0] 30) = W
  have HI1 : Hid (∃ (L : List FS) (h : Nat), LawI w P b B K W L h ∧ Uq L ∧ Pu L) := HI0.out W B hW hB
  clear hB hW HI0 H2
  go_wp2
  go_loopg [11] 16 (fun m iv wr => ∃ j : Nat, m = 16 - j ∧ j ≤ 16 ∧ iv = .int .i64 j ∧ Hid (∃ (L : List FS) (h : Nat), LawI w P b B K wr L h ∧ Uq L ∧ Pu L))
  case atStart => exact ⟨0, rfl, by omega, rfl, HI1⟩
  case round =>
    clear HI1
    obtain ⟨j, hj, hj2, rfl, HI⟩ := hrel
    obtain ⟨L, h, i0, iu, ip⟩ := HI.out
    have HG : Hid (gk = 16 - j) := hj
    have HL : Hid (LawI w P b B K wr L h) := i0
    have HUq : Hid (Uq L) := iu
    have HPu : Hid (Pu L) := ip
    clear hj HI i0 iu ip
    by_cases hjo : j < os.length
    · have hjo' : (j : Int) < (os.length : Int) := by omega
      by_cases hj16 : j < 16
      · have hj16' : (j : Int) < 16 := by omega
        have HJ : Hid (j < 16) := hj16
        have hw0 : IntKind.i64.wrap ((j : Int) + 1) = ((j + 1 : Nat) : Int) := by rw [IntKind.wrap_i64]; omega
        obtain ⟨bo, oo, z, rfl, hbo, hzok, -, hzc⟩ := od_at HS.out.1 HS.out.2 hjo
        obtain ⟨zd, zi, zp, zo, zn, zb⟩ := z
        obtain ⟨⟨hzd, hzi, hzp, hzo, hzn⟩, bs, hbs, hbo2⟩ := hzok
        simp only at hzc hzd hzi hzp hzo hzn hbs
        obtain ⟨ab, cb, hzb⟩ := hbs.shape
        subst hzb
        obtain ⟨i1, i2, i3, ⟨a, c, i4, i5⟩, i6, i7, i8, i9, i10, i11⟩ := HL.out
        have hPlt := i1.lt
        have hblt := i1.2.2.1
        have hBlt := i4.lt
        have HB : Hid (P < wr.heap.size ∧ b < wr.heap.size ∧ B < wr.heap.size ∧ w.heap.size ≤ P ∧ w.heap.size ≤ b ∧ w.heap.size ≤ B ∧ B ≠ P ∧ B ≠ b ∧ P ≠ b ∧ Grow w wr ∧ VarAt wr B [.slice a K c, .int .i64 h] ∧ RdQ (fun i => i ≠ P ∧ i ≠ b ∧ i ≠ B) wr (.slice a K c) L ∧ PtO wr P b 0 L h ∧ bo < w.heap.size) := ⟨hPlt, hblt, hBlt, i7, i8, i9, i10, i11, i1.2.1, i6, i4, i5, i1, hbo⟩
        have HZC : Hid (∀ w', Grow w w' → _) := hzc
        obtain ⟨⟨L', h'⟩, hstp⟩ : ∃ T, stp (around zd 13) (around zi ((L.length : Int) + 2) - 1) (around zp 5) zo zn bs L h = T := ⟨_, rfl⟩
        have hall := stp_all (around zd 13) (around zi ((L.length : Int) + 2) - 1) (around zp 5) zo zn i2 hbo2
        rw [hstp] at hall
        have HA : Hid (PtOk L' h' ∧ L'.length = K) := ⟨hall.1, hall.2.trans i3⟩
        have HUC : Hid (Uq L' ∧ Pu L') := by
          have h1 := Uq.stp (around zd 13) (around zi ((L.length : Int) + 2) - 1) (around zp 5) zo zn (ys := bs) HUq.out i2
          have h2 := Pu.stp (around zd 13) (around zi ((L.length : Int) + 2) - 1) (around zp 5) zo zn (ys := bs) HPu.out i2
          rw [hstp] at h1 h2
          exact ⟨h1, h2⟩
        have HD : Hid (∀ (W : World) (pq : Nat → Prop), PtO W P b 0 L h → (∀ i, pq i → i ≠ P ∧ i ≠ b) → (∀ i, W.heap.size ≤ i → pq i) → RdQ pq W (.slice a K c) L → Grow w W → Calls Try.prog 12 #[.pointer (some ⟨P, 0, none⟩), .agg #[.slice a K c, .int .i64 h], .agg #[.int .i64 zd, .int .i64 zi, .int .i64 zp, .int .i64 zo, .int .i64 zn, .slice ab bs.length cb]] W fun e w' => ∃ a' c', e = .returned (.tuple #[.agg #[.slice a' K c', .int .i64 (h' : Nat)], .bool true]) ∧ RdQ pq w' (.slice a' K c') L' ∧ PtO w' P b 0 L' h' ∧ UpdS (fun i => i = P ∨ i = b) W w') := fun W pq kW hpq hpn hrW gW => by
          have := does_any W P b 0 L h kW i2 a c pq hpq hpn (by rw [i3]; exact hrW) zd zi zp zo zn _ bs ((hbs.mono (fun i hi _ => by omega)).grow gW) hzd hzi hzp hzo hzn L' h' hstp
          rw [i3] at this
          exact this
        have gd : Grow wr wr.drew := (Grow.refl wr).drew
        have hfx : ∀ w', UpdS (fun i => i = P ∨ i = b ∨ wr.heap.size ≤ i) wr.drew w' → ((w'.cell? ⟨B, 0, none⟩ = some (.slice a K c) ∧ w'.cell? ⟨B, 1, none⟩ = some (.int .i64 h)) ∧ w'.cell? ⟨bo, oo + j * 6, none⟩ = some (.int .i64 zd) ∧ w'.cell? ⟨bo, oo + j * 6 + 1, none⟩ = some (.int .i64 zi) ∧ w'.cell? ⟨bo, oo + j * 6 + 2, none⟩ = some (.int .i64 zp) ∧ w'.cell? ⟨bo, oo + j * 6 + 3, none⟩ = some (.int .i64 zo) ∧ w'.cell? ⟨bo, oo + j * 6 + 4, none⟩ = some (.int .i64 zn) ∧ w'.cell? ⟨bo, oo + j * 6 + 5, none⟩ = some (.slice ab bs.length cb)) := fun w' g =>
          ⟨((i4.grow gd).upd g (by omega)).two.1, hzc w' (UpdS.new (i6.trans gd) g (fun i hi => by have := i6.size; omega))⟩
        have hf0 := hfx wr.drew (UpdS.refl _ _)
        clear i1 i2 i3 i4 i5 i6 i7 i8 i9 i10 i11 hall hstp hbs hbo2 hzc hPlt hblt hBlt hzd hzi hzp hzo hzn HL
        go_upto_region 9 with fail
        go_cut [12, 13] from 37 to 57 (fun nv sv wx => ∃ (Nn : Nat) (a5 : Option Addr) (c5 : Nat), nv = .pointer (some ⟨Nn, 0, none⟩) ∧ sv = .bool true ∧ Hid (VarAt wx Nn [.slice a5 K c5, .int .i64 h'] ∧ PtO wx P b 0 L' h' ∧ RdQ (fun i => i ≠ P ∧ i ≠ b ∧ i ≠ B) wx (.slice a5 K c5) L' ∧ VarAt wx B [.slice a K c, .int .i64 h] ∧ Grow w wx))
        case first =>
          go_wp2
          refine wp_region_treeG (UpdS (fun i => i = P ∨ i = b ∨ wr.heap.size ≤ i)) (UpdS.refl _) (fun _ _ _ => UpdS.trans) (by kernel_rfl) (.read 0 (.read 1 (.read 2 (.read 3 (.read 4 (.read 5 (.fork 6 (.read 7 (.read 8 (.read 9 (.act 10 (.act 11 (.read 12 .done)))))) 10 (.act 6 (.read 7 (.read 8 (.read 9 (.act 11 (.read 12 .done))))))))))))) (by kernel_rfl) (by kernel_rfl) rfl (fun _ _ d _ _ h => by cases d <;> exact h) ?_
          simp only [Tr.over, List.getElem?_toArray, List.getElem?_cons_zero, List.getElem?_cons_succ]
          repeat (first
            | (refine wpT_move rfl ?_; simp only [Act.eval, Act.put, Array.getD_eq_getD_getElem?, List.getElem?_toArray, List.getElem?_cons_zero, List.getElem?_cons_succ, Option.getD_some, List.setIfInBounds_toArray, List.set_cons_zero, List.set_cons_succ])
            | (refine wpT_assign rfl ?_; simp only [Act.eval, Act.put, Array.getD_eq_getD_getElem?, List.getElem?_toArray, List.getElem?_cons_zero, List.getElem?_cons_succ, Option.getD_some, List.setIfInBounds_toArray, List.set_cons_zero, List.set_cons_succ])
            | (refine wpT_read (v := ?_) rfl ?_ ?_; rotate_left; (focus (intro w' hG; obtain ⟨⟨q0, q1⟩, p0, p1, p2, p3, p4, p5⟩ := hfx w' hG; go_simp; try (with_reducible rfl))); simp only [Act.put, List.setIfInBounds_toArray, List.set_cons_zero, List.set_cons_succ])
            | (refine wpT_skip rfl ?_; simp only [Act.put, List.setIfInBounds_toArray, List.set_cons_zero, List.set_cons_succ]))
          refine wpT_fork ?_ ?_
          · skip
            have hb := HB.out
            have hd := HD.out wr.drew (fun i => i ≠ P ∧ i ≠ b ∧ i ≠ B) (hb.2.2.2.2.2.2.2.2.2.2.2.2.1.grow gd) (fun i hi => ⟨hi.1, hi.2.1⟩) (fun i hi => by have e0 : wr.drew.heap.size = wr.heap.size := rfl; omega) (RdS.grow hb.2.2.2.2.2.2.2.2.2.2.2.1 gd) (hb.2.2.2.2.2.2.2.2.2.1.trans gd)
            refine wpT_call (f := ?_) (args := ?_) (by rfl) ?_ ?_
            rotate_left 2; focus (go_simp; constructor <;> with_reducible rfl)
            refine (hd).mono ?_
            rintro e w5 ⟨a5, c5, rfl, r5, k5, u5⟩
            refine ⟨_, rfl, u5.mono (fun i hi => hi.elim .inl (fun e => .inr (.inl e))), ?_⟩
            simp only [Act.put, List.setIfInBounds_toArray, List.set_cons_zero, List.set_cons_succ]
            repeat (first
              | (refine wpT_move rfl ?_; simp only [Act.eval, Act.put, Array.getD_eq_getD_getElem?, List.getElem?_toArray, List.getElem?_cons_zero, List.getElem?_cons_succ, Option.getD_some, List.setIfInBounds_toArray, List.set_cons_zero, List.set_cons_succ])
              | (refine wpT_assign rfl ?_; simp only [Act.eval, Act.put, Array.getD_eq_getD_getElem?, List.getElem?_toArray, List.getElem?_cons_zero, List.getElem?_cons_succ, Option.getD_some, List.setIfInBounds_toArray, List.set_cons_zero, List.set_cons_succ])
              | (refine wpT_read (v := ?_) rfl ?_ ?_; rotate_left; (focus (intro w' hG; skip; go_simp; try (with_reducible rfl))); simp only [Act.put, List.setIfInBounds_toArray, List.set_cons_zero, List.set_cons_succ])
              | (refine wpT_skip rfl ?_; simp only [Act.put, List.setIfInBounds_toArray, List.set_cons_zero, List.set_cons_succ]))
            refine wpT_act (by rfl) (exec_allocW #[.slice none 0 0, .int .i64 0] zeroTP) (Grow.s ((Grow.refl _).alloc _)) ?_
            simp only [Act.put, List.setIfInBounds_toArray, List.set_cons_zero, List.set_cons_succ]
            have V6 := VarAt.new w5 [.slice none 0 0, .int .i64 0] 30
            have g6 : Grow w5 (w5.alloc (.cells #[.slice none 0 0, .int .i64 0] 30)) := (Grow.refl _).alloc _
            have r6 := RdS.grow (rd_old r5) g6
            have hs5 := u5.size
            generalize w5.alloc (.cells #[.slice none 0 0, .int .i64 0] 30) = w6 at V6 g6 r6 ⊢
            generalize w5.heap.size = M at V6 r6 hs5 ⊢
            have e0 : wr.drew.heap.size = wr.heap.size := rfl
            have u7 := upd_pair w6 M (.slice a5 K c5) (.int .i64 h')
            have HF : Hid (VarAt ((w6.setCell ⟨M, 0, none⟩ (.slice a5 K c5)).setCell ⟨M, 1, none⟩ (.int .i64 h')) M [.slice a5 K c5, .int .i64 h'] ∧ PtO ((w6.setCell ⟨M, 0, none⟩ (.slice a5 K c5)).setCell ⟨M, 1, none⟩ (.int .i64 h')) P b 0 L' h' ∧ RdQ (fun i => i ≠ P ∧ i ≠ b ∧ i ≠ B) ((w6.setCell ⟨M, 0, none⟩ (.slice a5 K c5)).setCell ⟨M, 1, none⟩ (.int .i64 h')) (.slice a5 K c5) L' ∧ VarAt ((w6.setCell ⟨M, 0, none⟩ (.slice a5 K c5)).setCell ⟨M, 1, none⟩ (.int .i64 h')) B [.slice a K c, .int .i64 h] ∧ Grow w ((w6.setCell ⟨M, 0, none⟩ (.slice a5 K c5)).setCell ⟨M, 1, none⟩ (.int .i64 h'))) :=
              ⟨V6.set2 _ _, (k5.grow g6).upd u7 (by omega) (by omega), (RdS.upd r6 u7 (fun i _ hi => by omega)).mono (fun i _ hi => hi.1), ((((hb.2.2.2.2.2.2.2.2.2.2.1.grow gd).upd u5 (by omega)).grow g6).upd u7 (by omega)), UpdS.new ((UpdS.new (hb.2.2.2.2.2.2.2.2.2.1.trans gd) u5 (fun i hi => by omega)).trans g6) u7 (fun i hi => by have := hb.2.2.2.2.2.2.2.2.2.1.size; omega)⟩
            obtain ⟨⟨y0, y1⟩, f0, f1⟩ := V6.two
            refine wpT_store (w' := (w6.setCell ⟨M, 0, none⟩ (.slice a5 K c5)).setCell ⟨M, 1, none⟩ (.int .i64 h')) (by rfl) (by go_simp) (u7.mono (fun i hi => .inr (.inr (by omega)))) ?_
            simp only [Act.put, List.setIfInBounds_toArray, List.set_cons_zero, List.set_cons_succ]
            repeat (first
              | (refine wpT_move rfl ?_; simp only [Act.eval, Act.put, Array.getD_eq_getD_getElem?, List.getElem?_toArray, List.getElem?_cons_zero, List.getElem?_cons_succ, Option.getD_some, List.setIfInBounds_toArray, List.set_cons_zero, List.set_cons_succ])
              | (refine wpT_assign rfl ?_; simp only [Act.eval, Act.put, Array.getD_eq_getD_getElem?, List.getElem?_toArray, List.getElem?_cons_zero, List.getElem?_cons_succ, Option.getD_some, List.setIfInBounds_toArray, List.set_cons_zero, List.set_cons_succ])
              | (refine wpT_read (v := ?_) rfl ?_ ?_; rotate_left; (focus (intro w' hG; skip; go_simp; try (with_reducible rfl))); simp only [Act.put, List.setIfInBounds_toArray, List.set_cons_zero, List.set_cons_succ])
              | (refine wpT_skip rfl ?_; simp only [Act.put, List.setIfInBounds_toArray, List.set_cons_zero, List.set_cons_succ]))
            generalize (w6.setCell ⟨M, 0, none⟩ (.slice a5 K c5)).setCell ⟨M, 1, none⟩ (.int .i64 h') = w7 at HF ⊢
            clear hd r5 k5 u5 V6 g6 r6 hs5 u7 y0 y1 f0 f1 hfx hf0
            refine wpT_done ?_
            go_wp2
            go_meet
            exact ⟨_, _, _, rfl, rfl, HF⟩
          · skip
            have hb := HB.out
            refine wpT_act (by rfl) (exec_allocW #[.slice none 0 0, .int .i64 0] zeroTP) (Grow.s ((Grow.refl _).alloc _)) ?_
            simp only [Act.put, List.setIfInBounds_toArray, List.set_cons_zero, List.set_cons_succ]
            have e0 : wr.drew.heap.size = wr.heap.size := rfl
            have V4 := VarAt.new wr.drew [.slice none 0 0, .int .i64 0] 30
            have g4 : Grow wr.drew (wr.drew.alloc (.cells #[.slice none 0 0, .int .i64 0] 30)) := (Grow.refl _).alloc _
            obtain ⟨w4, hw4⟩ : ∃ w4, wr.drew.alloc (.cells #[.slice none 0 0, .int .i64 0] 30) = w4 := ⟨_, rfl⟩
            obtain ⟨M, hM⟩ : ∃ M, wr.heap.size = M := ⟨_, rfl⟩
            rw [e0, hM, hw4] at V4
            rw [hw4] at g4 ⊢
            (try rw [show wr.drew.heap.size = wr.heap.size from rfl])
            (try rw [hM])
            have hM4 := V4.lt
            have hd := HD.out w4 (fun i => i ≠ P ∧ i ≠ b ∧ i ≠ B ∧ i ≠ M) ((hb.2.2.2.2.2.2.2.2.2.2.2.2.1.grow gd).grow g4) (fun i hi => ⟨hi.1, hi.2.1⟩) (fun i hi => by omega) ((RdS.grow (RdS.grow (rd_old hb.2.2.2.2.2.2.2.2.2.2.2.1) gd) g4).mono (fun i _ hi => ⟨hi.1.1, hi.1.2.1, hi.1.2.2, by omega⟩)) ((hb.2.2.2.2.2.2.2.2.2.1.trans gd).trans g4)
            refine wpT_call (f := ?_) (args := ?_) (by rfl) ?_ ?_
            rotate_left 2; focus (go_simp; constructor <;> with_reducible rfl)
            refine (hd).mono ?_
            rintro e w6 ⟨a5, c5, rfl, r6, k6, u6⟩
            refine ⟨_, rfl, u6.mono (fun i hi => hi.elim .inl (fun e => .inr (.inl e))), ?_⟩
            simp only [Act.put, List.setIfInBounds_toArray, List.set_cons_zero, List.set_cons_succ]
            repeat (first
              | (refine wpT_move rfl ?_; simp only [Act.eval, Act.put, Array.getD_eq_getD_getElem?, List.getElem?_toArray, List.getElem?_cons_zero, List.getElem?_cons_succ, Option.getD_some, List.setIfInBounds_toArray, List.set_cons_zero, List.set_cons_succ])
              | (refine wpT_assign rfl ?_; simp only [Act.eval, Act.put, Array.getD_eq_getD_getElem?, List.getElem?_toArray, List.getElem?_cons_zero, List.getElem?_cons_succ, Option.getD_some, List.setIfInBounds_toArray, List.set_cons_zero, List.set_cons_succ])
              | (refine wpT_read (v := ?_) rfl ?_ ?_; rotate_left; (focus (intro w' hG; skip; go_simp; try (with_reducible rfl))); simp only [Act.put, List.setIfInBounds_toArray, List.set_cons_zero, List.set_cons_succ])
              | (refine wpT_skip rfl ?_; simp only [Act.put, List.setIfInBounds_toArray, List.set_cons_zero, List.set_cons_succ]))
            have V6 := V4.upd u6 (by omega)
            have u7 := upd_pair w6 M (.slice a5 K c5) (.int .i64 h')
            have HF : Hid (VarAt ((w6.setCell ⟨M, 0, none⟩ (.slice a5 K c5)).setCell ⟨M, 1, none⟩ (.int .i64 h')) M [.slice a5 K c5, .int .i64 h'] ∧ PtO ((w6.setCell ⟨M, 0, none⟩ (.slice a5 K c5)).setCell ⟨M, 1, none⟩ (.int .i64 h')) P b 0 L' h' ∧ RdQ (fun i => i ≠ P ∧ i ≠ b ∧ i ≠ B) ((w6.setCell ⟨M, 0, none⟩ (.slice a5 K c5)).setCell ⟨M, 1, none⟩ (.int .i64 h')) (.slice a5 K c5) L' ∧ VarAt ((w6.setCell ⟨M, 0, none⟩ (.slice a5 K c5)).setCell ⟨M, 1, none⟩ (.int .i64 h')) B [.slice a K c, .int .i64 h] ∧ Grow w ((w6.setCell ⟨M, 0, none⟩ (.slice a5 K c5)).setCell ⟨M, 1, none⟩ (.int .i64 h'))) :=
              ⟨V6.set2 _ _, k6.upd u7 (by omega) (by omega), (RdS.upd r6 u7 (fun i _ hi => hi.2.2.2)).mono (fun i _ hi => ⟨hi.1, hi.2.1, hi.2.2.1⟩), ((((hb.2.2.2.2.2.2.2.2.2.2.1.grow gd).grow g4).upd u6 (by omega)).upd u7 (by omega)), UpdS.new (UpdS.new ((hb.2.2.2.2.2.2.2.2.2.1.trans gd).trans g4) u6 (fun i hi => by omega)) u7 (fun i hi => by have := hb.2.2.2.2.2.2.2.2.2.1.size; omega)⟩
            obtain ⟨⟨y0, y1⟩, f0, f1⟩ := V6.two
            refine wpT_store (w' := (w6.setCell ⟨M, 0, none⟩ (.slice a5 K c5)).setCell ⟨M, 1, none⟩ (.int .i64 h')) (by rfl) (by go_simp) (u7.mono (fun i hi => .inr (.inr (by omega)))) ?_
            simp only [Act.put, List.setIfInBounds_toArray, List.set_cons_zero, List.set_cons_succ]
            repeat (first
              | (refine wpT_move rfl ?_; simp only [Act.eval, Act.put, Array.getD_eq_getD_getElem?, List.getElem?_toArray, List.getElem?_cons_zero, List.getElem?_cons_succ, Option.getD_some, List.setIfInBounds_toArray, List.set_cons_zero, List.set_cons_succ])
              | (refine wpT_assign rfl ?_; simp only [Act.eval, Act.put, Array.getD_eq_getD_getElem?, List.getElem?_toArray, List.getElem?_cons_zero, List.getElem?_cons_succ, Option.getD_some, List.setIfInBounds_toArray, List.set_cons_zero, List.set_cons_succ])
              | (refine wpT_read (v := ?_) rfl ?_ ?_; rotate_left; (focus (intro w' hG; skip; go_simp; try (with_reducible rfl))); simp only [Act.put, List.setIfInBounds_toArray, List.set_cons_zero, List.set_cons_succ])
              | (refine wpT_skip rfl ?_; simp only [Act.put, List.setIfInBounds_toArray, List.set_cons_zero, List.set_cons_succ]))
            generalize (w6.setCell ⟨M, 0, none⟩ (.slice a5 K c5)).setCell ⟨M, 1, none⟩ (.int .i64 h') = w7 at HF ⊢
            clear hd V4 g4 hw4 hM hM4 r6 k6 u6 V6 u7 y0 y1 f0 f1 hfx hf0
            refine wpT_done ?_
            go_wp2
            go_meet
            exact ⟨_, _, _, rfl, rfl, HF⟩
        case rest =>
          clear hfx hf0
          obtain ⟨Nn, a5, c5, rfl, rfl, HC⟩ := hcut
          obtain ⟨⟨x0, x1⟩, -⟩ := HC.out.1.two
          obtain ⟨⟨y0, y1⟩, f0, f1⟩ := HC.out.2.2.2.1.two
          have HI5 : Hid (LawI w P b B K ((wc.setCell ⟨B, 0, none⟩ (.slice a5 K c5)).setCell ⟨B, 1, none⟩ (.int .i64 h')) L' h') := by
            have hb := HB.out
            have u2 := upd_pair wc B (.slice a5 K c5) (.int .i64 h')
            exact ⟨HC.out.2.1.upd u2 (by omega) (by omega), HA.out.1, HA.out.2, ⟨a5, c5, HC.out.2.2.2.1.set2 _ _, RdS.upd HC.out.2.2.1 u2 (fun i _ hi => hi.2.2)⟩, UpdS.new HC.out.2.2.2.2 u2 (fun i hi => by omega), by omega, by omega, by omega, by omega, by omega⟩
          go_upto_region 8 with fail
          generalize (wc.setCell ⟨B, 0, none⟩ (.slice a5 K c5)).setCell ⟨B, 1, none⟩ (.int .i64 h') = w5 at HI5 ⊢
          clear x0 x1 y0 y1 f0 f1 HC HB HZC HD
          go_wp2
          go_roundg (16 - (j + 1))
          case measure => have := HG.out; have := HJ.out; omega
          case rel => exact ⟨j + 1, rfl, by have := HJ.out; omega, by go_num, _, _, HI5.out, HUC.out.1, HUC.out.2⟩
      · have hj16' : ¬ (j : Int) < 16 := by omega
        have HE0 : Hid (∃ (L : List FS) (h : Nat), PtO wr P b 0 L h ∧ PtOk L h ∧ L.length = K ∧ Grow w wr ∧ w.heap.size ≤ P ∧ w.heap.size ≤ b ∧ Uq L ∧ Pu L ∧ (∀ i, i < 0 → L.getD i FS.empty = FS.empty)) := ⟨L, h, HL.out.1, HL.out.2.1, HL.out.2.2.1, HL.out.2.2.2.2.1, HL.out.2.2.2.2.2.1, HL.out.2.2.2.2.2.2.1, HUq.out, HPu.out, fun i hi => absurd hi (Nat.not_lt_zero _)⟩
        clear HL HUq HPu
        go_wp2
        go_loopg [14] K (fun m iv wx => ∃ j2 : Nat, m = K - j2 ∧ j2 ≤ K ∧ iv = .int .i64 j2 ∧ Hid (each = false → j2 = 0) ∧ Hid (∃ (L : List FS) (h : Nat), PtO wx P b 0 L h ∧ PtOk L h ∧ L.length = K ∧ Grow w wx ∧ w.heap.size ≤ P ∧ w.heap.size ≤ b ∧ Uq L ∧ Pu L ∧ (∀ i, i < j2 → L.getD i FS.empty = FS.empty)))
        case atStart => exact ⟨0, rfl, Nat.zero_le _, rfl, fun _ => rfl, HE0⟩
        case round =>
          clear HE0
          obtain ⟨j2, hj2', hjK, rfl, HZ0, HI2⟩ := hrel
          have HG2 : Hid (gk = K - j2) := hj2'
          clear hj2'
          obtain ⟨L, h, i1, i2, i3, i4, i5, i6, i7, i8, i9⟩ := HI2.out
          have HX : Hid (PtO wr P b 0 L h ∧ PtOk L h ∧ L.length = K ∧ Grow w wr ∧ w.heap.size ≤ P ∧ w.heap.size ≤ b ∧ Uq L ∧ Pu L ∧ (∀ i, i < j2 → L.getD i FS.empty = FS.empty)) := ⟨i1, i2, i3, i4, i5, i6, i7, i8, i9⟩
          clear HI2 i1 i2 i3 i4 i5 i6 i7 i8 i9
          cases each with
          | false =>
            have hz : j2 = 0 := HZ0.out rfl
            subst hz
            have hcl := clear_any wr P b 0 L h HX.out.1 (by have := HX.out.2.1.2.1; omega)
            rw [HX.out.2.2.1] at hcl
            have hk0 := HK.out.1
            have hlt0 : (0 : Int) < (K : Int) := by omega
            go_wp2_with fail
            refine hcl.mono ?_
            rintro e w2 ⟨rfl, k2, u2⟩
            have HE : Hid (∃ (L : List FS) (h : Nat), PtO w2 P b 0 L h ∧ PtOk L h ∧ L.length = K ∧ Grow w w2 ∧ w.heap.size ≤ P ∧ w.heap.size ≤ b ∧ (∀ i, i < K → L.getD i FS.empty = FS.empty) ∧ h = 0) := ⟨List.replicate K FS.empty, 0, k2, repl_ok hk0 (by have := HK.out.2; omega), List.length_replicate, UpdS.new HX.out.2.2.2.1 u2 (fun i hi => by have := HX.out.2.2.2.2; omega), HX.out.2.2.2.2.1, HX.out.2.2.2.2.2.1, fun i hi => repl_at hi, rfl⟩
            clear hcl k2 u2 HX hk0 hlt0
            go_wp2
            go_loopg [16] 5 (fun m iv wx => ∃ q : Nat, m = 5 - q ∧ q ≤ 5 ∧ iv = .int .i64 q ∧ Hid (∃ (L : List FS) (h : Nat), PtO wx P b 0 L h ∧ PtOk L h ∧ L.length = K ∧ Grow w wx ∧ w.heap.size ≤ P ∧ w.heap.size ≤ b ∧ (∀ i, i < K → L.getD i FS.empty = FS.empty) ∧ h = 0))
            case atStart => exact ⟨0, rfl, by omega, rfl, HE⟩
            case round =>
              clear HE
              obtain ⟨q, hq, hq5, rfl, HI4⟩ := hrel
              have HG4 : Hid (gk = 5 - q) := hq
              clear hq
              obtain ⟨L, h, i1, i2, i3, i4, i5, i6, i7, i8⟩ := HI4.out
              have HX : Hid (PtO wr P b 0 L h ∧ PtOk L h ∧ L.length = K ∧ Grow w wr ∧ w.heap.size ≤ P ∧ w.heap.size ≤ b ∧ (∀ i, i < K → L.getD i FS.empty = FS.empty) ∧ h = 0) := ⟨i1, i2, i3, i4, i5, i6, i7, i8⟩
              have hnf : ∀ x : Int, ¬ fnd x L < L.length := fun x hx => by
                have := fnd_of hx
                rw [i7 _ (by rw [← i3]; exact hx)] at this
                cases this
              by_cases hlt : q < 5
              · have hle : (q : Int) < 5 := by omega
                have HQ : Hid (q + 1 ≤ 5) := hlt
                have hwq : IntKind.i64.wrap ((q : Int) + 1) = ((q + 1 : Nat) : Int) := by rw [IntKind.wrap_i64]; omega
                have hfi := find_any wr P b 0 L h i1 i2.2.2 (q : Int)
                rw [(fnd_no (hnf _)).1, (fnd_no (hnf _)).2] at hfi
                have hgt := pget_any wr P b 0 L h i1 i2 (q : Int) 0 1 (by decide) (by decide)
                rw [getP_no (hnf _)] at hgt
                clear hlt hnf HI4 i1 i2 i3 i4 i5 i6 i7 i8
                go_wp2_with fail
                refine hfi.mono ?_
                rintro e w1 ⟨rfl, rfl⟩
                clear hfi
                go_wp2_with fail
                refine hgt.mono ?_
                rintro e w2 ⟨vg, rfl, rg, kg, ug⟩
                have HF : Hid (∃ (L : List FS) (h : Nat), PtO w2 P b 0 L h ∧ PtOk L h ∧ L.length = K ∧ Grow w w2 ∧ w.heap.size ≤ P ∧ w.heap.size ≤ b ∧ (∀ i, i < K → L.getD i FS.empty = FS.empty) ∧ h = 0) := ⟨L, h, kg, HX.out.2.1, HX.out.2.2.1, UpdS.new HX.out.2.2.2.1 ug (fun i hi => by have := HX.out.2.2.2.2; omega), HX.out.2.2.2.2.1, HX.out.2.2.2.2.2.1, HX.out.2.2.2.2.2.2.1, HX.out.2.2.2.2.2.2.2⟩
                obtain ⟨ag, cg, hvg⟩ := rg.shape
                subst hvg
                clear hgt rg kg ug HX
                go_wp2
                go_roundg (5 - (q + 1))
                case measure => have := HG4.out; have := HQ.out; omega
                case rel => exact ⟨q + 1, rfl, HQ.out, by go_num, HF⟩
              · have hge : ¬ (q : Int) < 5 := by omega
                have hem := pempty_any wr P b 0 L h i1 i2.2.2
                rw [(emptyL_iff L).2 (fun i hi => i7 i (by omega))] at hem
                have hhd := hand_any wr P b 0 L h i1
                rw [i8] at hhd
                have hlv := lives_any wr
                clear hnf HI4 i1 i2 i3 i4 i5 i6 i7 i8
                go_wp2_with fail
                refine hem.mono ?_
                rintro e w1 ⟨rfl, rfl⟩
                clear hem
                go_wp2_with fail
                refine hhd.mono ?_
                rintro e w1 ⟨rfl, rfl⟩
                clear hhd
                go_wp2_with fail
                refine hlv.mono ?_
                rintro e w2 ⟨rfl, g2⟩
                have HF : Hid (Grow w w2) := HX.out.2.2.2.1.trans g2
                clear hlv g2
                go_wp2
                go_ret
                exact ⟨rfl, HF.out⟩
          | true =>
            by_cases hlt : j2 < K
            · have hle : (j2 : Int) < (K : Int) := by omega
              have HJ2 : Hid (j2 + 1 ≤ K) := hlt
              have hw1 : IntKind.i64.wrap ((j2 : Int) + 1) = ((j2 + 1 : Nat) : Int) := by rw [IntKind.wrap_i64]; have := HK.out; omega
              have hlL : j2 < L.length := by rw [HX.out.2.2.1]; exact hlt
              have hat := at_any wr P b 0 L h HX.out.1 HX.out.2.1.2.2 (j2 : Int)
              rw [atL_yes hlL] at hat
              simp only [FS.arr] at hat
              obtain ⟨s, hs⟩ : ∃ s, L.getD j2 FS.empty = s := ⟨_, rfl⟩
              have HS0 : Hid (L.getD j2 FS.empty = s ∧ 0 ≤ s.p) := ⟨hs, by rw [← hs]; exact (HX.out.2.1.at hlL).2.2.1⟩
              rw [hs] at hat
              clear hs hlL hlt
              go_wp2_with fail
              refine hat.mono ?_
              rintro e w4 ⟨rfl, hsl, g4⟩
              have hst := put37 w4 s hsl
              have hl37 := FS.cells_len hsl
              have hfx := put37_at w4 s hsl
              rw [← zeroF_lit] at hst hfx
              clear hat
              go_wp2
              obtain ⟨M, hM⟩ : ∃ M, w4.heap.size = M := ⟨_, rfl⟩
              have HM : Hid (M ≠ P ∧ M ≠ b ∧ w.heap.size ≤ M) := by
                have h1 := (HX.out.1.grow g4).lt
                have h2 := (HX.out.1.grow g4).2.2.1
                have h3 := (HX.out.2.2.2.1.trans g4).size
                exact ⟨by omega, by omega, by omega⟩
              rw [hM] at hfx hst
              (try rw [hM])
              generalize (w4.alloc (.cells #[.bool false, .bool false, .bool false, .int .i64 0, .int .i64 0, .int .u8 0, .int .u8 0, .int .u8 0, .int .u8 0, .int .u8 0, .int .u8 0, .int .u8 0, .int .u8 0, .int .u8 0, .int .u8 0, .int .u8 0, .int .u8 0, .int .u8 0, .int .u8 0, .int .u8 0, .int .u8 0, .int .u8 0, .int .u8 0, .int .u8 0, .int .u8 0, .int .u8 0, .int .u8 0, .int .u8 0, .int .u8 0, .int .u8 0, .int .u8 0, .int .u8 0, .int .u8 0, .int .u8 0, .int .u8 0, .int .u8 0, .int .u8 0] 47)).setCells M 0 s.cells = w5 at hfx ⊢
              have HI3 : Hid (∃ (L : List FS) (m3 : Nat), s.p.toNat = m3 ∧ Hid (PtO w5 P b 0 L h ∧ PtOk L h ∧ L.length = K ∧ Grow w w5 ∧ w.heap.size ≤ P ∧ w.heap.size ≤ b ∧ Uq L ∧ Pu L ∧ (∀ i, i < j2 → L.getD i FS.empty = FS.empty) ∧ FrX w5 M 0 (L.getD j2 FS.empty) ∧ M ≠ P ∧ M ≠ b ∧ (L.getD j2 FS.empty).p = (m3 : Int) ∧ w.heap.size ≤ M)) := by
                obtain ⟨i1, i2, i3, i4, i5, i6, i7, i8, i9⟩ := HX.out
                refine ⟨L, s.p.toNat, rfl, (i1.grow g4).grow hfx.2, i2, i3, (i4.trans g4).trans hfx.2, i5, i6, i7, i8, i9, ?_, HM.out.1, HM.out.2.1, ?_, HM.out.2.2⟩
                · rw [HS0.out.1]; exact hfx.1
                · rw [HS0.out.1]; have := HS0.out.2; omega
              clear hst hl37 hfx g4 hM HX hsl
              go_loopg [] s.p.toNat (fun m wx => ∃ (L : List FS) (m3 : Nat), m = m3 ∧ Hid (PtO wx P b 0 L h ∧ PtOk L h ∧ L.length = K ∧ Grow w wx ∧ w.heap.size ≤ P ∧ w.heap.size ≤ b ∧ Uq L ∧ Pu L ∧ (∀ i, i < j2 → L.getD i FS.empty = FS.empty) ∧ FrX wx M 0 (L.getD j2 FS.empty) ∧ M ≠ P ∧ M ≠ b ∧ (L.getD j2 FS.empty).p = (m3 : Int) ∧ w.heap.size ≤ M))
              case atStart => exact HI3.out
              case round =>
                clear HI3
                obtain ⟨L, m3, hm3, HR3⟩ := hrel
                have HG3 : Hid (gk = m3) := hm3
                obtain ⟨⟨-, -, -, c3, c4⟩, -⟩ := FrO.five HR3.out.2.2.2.2.2.2.2.2.2.1
                have hlL : j2 < L.length := by rw [HR3.out.2.2.1]; have := HJ2.out; omega
                have HOK : Hid ((L.getD j2 FS.empty).Ok ∧ j2 < L.length) := ⟨HR3.out.2.1.at hlL, hlL⟩
                rw [HR3.out.2.2.2.2.2.2.2.2.2.2.2.2.1] at c3
                obtain ⟨q, hq⟩ : ∃ q, (L.getD j2 FS.empty).q = q := ⟨_, rfl⟩
                rw [hq] at c4
                clear hm3 hlL
                by_cases hm : 0 < m3
                · have hm' : (0 : Int) < (m3 : Int) := by omega
                  have hun := punpin_any wr P b 0 L h HR3.out.1 HR3.out.2.1 q
                  have hu : (L.getD j2 FS.empty).u = true := HR3.out.2.2.2.2.2.2.2.1 j2 HOK.out.2 (by rw [HR3.out.2.2.2.2.2.2.2.2.2.2.2.2.1]; exact hm')
                  have hof : (L.getD j2 FS.empty).of q = true := by
                    show (_ && (_ == _)) = true
                    rw [hu, hq]; simp
                  have hfn : fnd q L = j2 := Uq.fnd HR3.out.2.2.2.2.2.2.1 HOK.out.2 hof
                  have hon : onP q unpinS L = (L.set j2 ⟨(L.getD j2 FS.empty).u, (L.getD j2 FS.empty).d, (L.getD j2 FS.empty).r, (L.getD j2 FS.empty).p - 1, (L.getD j2 FS.empty).q, (L.getD j2 FS.empty).bs⟩, 0) := by
                    rw [onP_yes (by rw [hfn]; exact HOK.out.2) hfn]
                    have : unpinS (L.getD j2 FS.empty) = (⟨(L.getD j2 FS.empty).u, (L.getD j2 FS.empty).d, (L.getD j2 FS.empty).r, (L.getD j2 FS.empty).p - 1, (L.getD j2 FS.empty).q, (L.getD j2 FS.empty).bs⟩, 0) := if_neg (by rw [HR3.out.2.2.2.2.2.2.2.2.2.2.2.2.1]; omega)
                    rw [this]
                  rw [hon] at hun
                  obtain ⟨s2, hs2⟩ : ∃ s2 : FS, s2 = ⟨(L.getD j2 FS.empty).u, (L.getD j2 FS.empty).d, (L.getD j2 FS.empty).r, (L.getD j2 FS.empty).p - 1, (L.getD j2 FS.empty).q, (L.getD j2 FS.empty).bs⟩ := ⟨_, rfl⟩
                  rw [← hs2] at hun
                  have HN : Hid (PtOk (L.set j2 s2) h ∧ (L.set j2 s2).length = K ∧ Uq (L.set j2 s2) ∧ Pu (L.set j2 s2) ∧ (∀ i, i < j2 → (L.set j2 s2).getD i FS.empty = FS.empty) ∧ (L.set j2 s2).getD j2 FS.empty = s2 ∧ s2.p = ((m3 - 1 : Nat) : Int) ∧ s2.bs.length = 32) := by
                    have hok := HOK.out.1
                    have hpp := HR3.out.2.2.2.2.2.2.2.2.2.2.2.2.1
                    have hs2ok : s2.Ok := by
                      rw [hs2]
                      have h3 := hok.2.2.2
                      exact ⟨hok.1, hok.2.1, by show 0 ≤ _ - 1; rw [hpp]; omega, by show _ - 1 ≤ 100; omega⟩
                    refine ⟨HR3.out.2.1.set hs2ok, by rw [List.length_set]; exact HR3.out.2.2.1, HR3.out.2.2.2.2.2.2.1.same HOK.out.2 (by rw [hs2]) (by rw [hs2]; exact fun h => h), Pu.set HR3.out.2.2.2.2.2.2.2.1 (fun _ => by rw [hs2]; exact hu), fun i hi => ?_, ?_, by rw [hs2]; show _ - 1 = _; rw [hpp]; omega, hs2ok.1⟩
                    · rw [getD_set (by have := HOK.out.2; omega), if_neg (by omega)]; exact HR3.out.2.2.2.2.2.2.2.2.1 i hi
                    · rw [getD_set HOK.out.2, if_pos rfl]
                  clear hon hs2 hfn hof hu hq
                  generalize L.set j2 s2 = L3 at hun HN
                  go_wp2_with fail
                  refine hun.mono ?_
                  rintro e w6 ⟨rfl, k6, u6⟩
                  have hat := at_any w6 P b 0 L3 h k6 HN.out.1.2.2 (j2 : Int)
                  rw [atL_yes (by rw [HN.out.2.1]; have := HJ2.out; omega), HN.out.2.2.2.2.2.1] at hat
                  simp only [FS.arr] at hat
                  have H6 : Hid (PtO w6 P b 0 L3 h ∧ Grow w w6 ∧ FrX w6 M 0 (L.getD j2 FS.empty)) := ⟨k6, UpdS.new HR3.out.2.2.2.1 u6 (fun i hi => by have := HR3.out; omega), HR3.out.2.2.2.2.2.2.2.2.2.1.upd u6 (by have := HM.out; omega)⟩
                  clear hun k6 u6
                  go_wp2_with fail
                  refine hat.mono ?_
                  rintro e w7 ⟨rfl, hsl, g7⟩
                  have FX := FrX.upd (S := fun _ => False) H6.out.2.2 g7.s (fun f => f)
                  have hl37 := FS.cells_len hsl
                  have hst := run_storeCells_cells (P := Try.prog) M 0 s2.cells 0 w7 (fun i hi => by rw [hl37] at hi; exact (FX.there i hi).1) (fun i hi => by rw [hl37] at hi; exact (FX.there i hi).2) s2.cells_one
                  simp only [Nat.add_zero] at hst
                  have HF : Hid (∃ (L : List FS) (m4 : Nat), m3 - 1 = m4 ∧ Hid (PtO (w7.setCells M 0 s2.cells) P b 0 L h ∧ PtOk L h ∧ L.length = K ∧ Grow w (w7.setCells M 0 s2.cells) ∧ w.heap.size ≤ P ∧ w.heap.size ≤ b ∧ Uq L ∧ Pu L ∧ (∀ i, i < j2 → L.getD i FS.empty = FS.empty) ∧ FrX (w7.setCells M 0 s2.cells) M 0 (L.getD j2 FS.empty) ∧ M ≠ P ∧ M ≠ b ∧ (L.getD j2 FS.empty).p = (m4 : Int) ∧ w.heap.size ≤ M)) := by
                    have uM := updS_row M 0 s2.cells w7
                    have hm := HM.out
                    obtain ⟨n1, n2, n3, n4, n5, n6, n7, n8⟩ := HN.out
                    refine ⟨L3, m3 - 1, rfl, (H6.out.1.grow g7).upd uM (by omega) (by omega), n1, n2, UpdS.new (H6.out.2.1.trans g7) uM (fun i hi => by omega), HR3.out.2.2.2.2.1, HR3.out.2.2.2.2.2.1, n3, n4, n5, ?_, hm.1, hm.2.1, ?_, hm.2.2⟩
                    · rw [n6]; exact FX.put hsl
                    · rw [n6]; exact n7
                  clear hat g7 FX c3 c4
                  go_wp2
                  generalize w7.setCells M 0 s2.cells = w8 at HF ⊢
                  clear hst hl37 hsl
                  go_roundg (m3 - 1)
                  case measure => have := HG3.out; omega
                  case rel => exact HF.out
                · have hm' : ¬ (0 : Int) < (m3 : Int) := by omega
                  have hrl := release_any wr P b 0 L h HR3.out.1 (j2 : Int)
                  rw [relP_yes HOK.out.2 (by rw [HR3.out.2.2.2.2.2.2.2.2.2.2.2.2.1]; omega)] at hrl
                  have HN : Hid (PtOk (L.set j2 FS.empty) h ∧ (L.set j2 FS.empty).length = K ∧ Uq (L.set j2 FS.empty) ∧ Pu (L.set j2 FS.empty) ∧ (∀ i, i < j2 + 1 → (L.set j2 FS.empty).getD i FS.empty = FS.empty)) := by
                    refine ⟨HR3.out.2.1.set FS.empty_ok, by rw [List.length_set]; exact HR3.out.2.2.1, HR3.out.2.2.2.2.2.2.1.set (fun h => by cases h), Pu.set HR3.out.2.2.2.2.2.2.2.1 (fun h => by cases h), fun i hi => ?_⟩
                    rw [getD_set (by have := HOK.out.2; omega)]
                    by_cases e : j2 = i
                    · rw [if_pos e]
                    · rw [if_neg e]; exact HR3.out.2.2.2.2.2.2.2.2.1 i (by omega)
                  generalize L.set j2 FS.empty = L3 at hrl HN
                  clear hm hq
                  go_wp2_with fail
                  refine hrl.mono ?_
                  rintro e w6 ⟨rfl, k6, u6⟩
                  have HF : Hid (∃ (L : List FS) (h : Nat), PtO w6 P b 0 L h ∧ PtOk L h ∧ L.length = K ∧ Grow w w6 ∧ w.heap.size ≤ P ∧ w.heap.size ≤ b ∧ Uq L ∧ Pu L ∧ (∀ i, i < j2 + 1 → L.getD i FS.empty = FS.empty)) := ⟨L3, h, k6, HN.out.1, HN.out.2.1, UpdS.new HR3.out.2.2.2.1 u6 (fun i hi => by have := HR3.out; omega), HR3.out.2.2.2.2.1, HR3.out.2.2.2.2.2.1, HN.out.2.2.1, HN.out.2.2.2.1, HN.out.2.2.2.2⟩
                  clear hrl k6 u6 c3 c4 HR3
                  go_wp2
                  go_roundg (K - (j2 + 1))
                  case measure => have := HG2.out; have := HJ2.out; omega
                  case rel => exact ⟨j2 + 1, rfl, HJ2.out, by go_num, fun h => Bool.noConfusion h, HF⟩
            · have hge : ¬ (j2 : Int) < (K : Int) := by omega
              obtain rfl : K = j2 := by omega
              have HE : Hid (∃ (L : List FS) (h : Nat), PtO wr P b 0 L h ∧ PtOk L h ∧ L.length = K ∧ Grow w wr ∧ w.heap.size ≤ P ∧ w.heap.size ≤ b ∧ (∀ i, i < K → L.getD i FS.empty = FS.empty)) := by
                obtain ⟨i1, i2, i3, i4, i5, i6, i7, i8, i9⟩ := HX.out
                exact ⟨L, h, i1, i2, i3, i4, i5, i6, i9⟩
              clear HX
              go_wp2
              go_loopg [16] 5 (fun m iv wx => ∃ q : Nat, m = 5 - q ∧ q ≤ 5 ∧ iv = .int .i64 q ∧ Hid (∃ (L : List FS) (h : Nat), PtO wx P b 0 L h ∧ PtOk L h ∧ L.length = K ∧ Grow w wx ∧ w.heap.size ≤ P ∧ w.heap.size ≤ b ∧ (∀ i, i < K → L.getD i FS.empty = FS.empty)))
              case atStart => exact ⟨0, rfl, by omega, rfl, HE⟩
              case round =>
                clear HE
                obtain ⟨q, hq, hq5, rfl, HI4⟩ := hrel
                have HG4 : Hid (gk = 5 - q) := hq
                clear hq
                obtain ⟨L, h, i1, i2, i3, i4, i5, i6, i7⟩ := HI4.out
                have HX : Hid (PtO wr P b 0 L h ∧ PtOk L h ∧ L.length = K ∧ Grow w wr ∧ w.heap.size ≤ P ∧ w.heap.size ≤ b ∧ (∀ i, i < K → L.getD i FS.empty = FS.empty)) := ⟨i1, i2, i3, i4, i5, i6, i7⟩
                have hnf : ∀ x : Int, ¬ fnd x L < L.length := fun x hx => by
                  have := fnd_of hx
                  rw [i7 _ (by rw [← i3]; exact hx)] at this
                  cases this
                by_cases hlt : q < 5
                · have hle : (q : Int) < 5 := by omega
                  have HQ : Hid (q + 1 ≤ 5) := hlt
                  have hwq : IntKind.i64.wrap ((q : Int) + 1) = ((q + 1 : Nat) : Int) := by rw [IntKind.wrap_i64]; omega
                  have hfi := find_any wr P b 0 L h i1 i2.2.2 (q : Int)
                  rw [(fnd_no (hnf _)).1, (fnd_no (hnf _)).2] at hfi
                  have hgt := pget_any wr P b 0 L h i1 i2 (q : Int) 0 1 (by decide) (by decide)
                  rw [getP_no (hnf _)] at hgt
                  clear hlt hnf HI4 i1 i2 i3 i4 i5 i6 i7
                  go_wp2_with fail
                  refine hfi.mono ?_
                  rintro e w1 ⟨rfl, rfl⟩
                  clear hfi
                  go_wp2_with fail
                  refine hgt.mono ?_
                  rintro e w2 ⟨vg, rfl, rg, kg, ug⟩
                  have HF : Hid (∃ (L : List FS) (h : Nat), PtO w2 P b 0 L h ∧ PtOk L h ∧ L.length = K ∧ Grow w w2 ∧ w.heap.size ≤ P ∧ w.heap.size ≤ b ∧ (∀ i, i < K → L.getD i FS.empty = FS.empty)) := ⟨L, h, kg, HX.out.2.1, HX.out.2.2.1, UpdS.new HX.out.2.2.2.1 ug (fun i hi => by have := HX.out.2.2.2.2; omega), HX.out.2.2.2.2.1, HX.out.2.2.2.2.2.1, HX.out.2.2.2.2.2.2⟩
                  obtain ⟨ag, cg, hvg⟩ := rg.shape
                  subst hvg
                  clear hgt rg kg ug HX
                  go_wp2
                  go_roundg (5 - (q + 1))
                  case measure => have := HG4.out; have := HQ.out; omega
                  case rel => exact ⟨q + 1, rfl, HQ.out, by go_num, HF⟩
                · have hge : ¬ (q : Int) < 5 := by omega
                  have hem := pempty_any wr P b 0 L h i1 i2.2.2
                  rw [(emptyL_iff L).2 (fun i hi => i7 i (by omega))] at hem
                  have hlv := lives_any wr
                  clear hnf HI4 i1 i2 i3 i4 i5 i6 i7
                  go_wp2_with fail
                  refine hem.mono ?_
                  rintro e w1 ⟨rfl, rfl⟩
                  clear hem
                  go_wp2_with fail
                  refine hlv.mono ?_
                  rintro e w2 ⟨rfl, g2⟩
                  have HF : Hid (Grow w w2) := HX.out.2.2.2.1.trans g2
                  clear hlv g2
                  go_wp2
                  go_ret
                  exact ⟨rfl, HF.out⟩
    · have hjo' : ¬ (j : Int) < (os.length : Int) := by omega
      have HE0 : Hid (∃ (L : List FS) (h : Nat), PtO wr P b 0 L h ∧ PtOk L h ∧ L.length = K ∧ Grow w wr ∧ w.heap.size ≤ P ∧ w.heap.size ≤ b ∧ Uq L ∧ Pu L ∧ (∀ i, i < 0 → L.getD i FS.empty = FS.empty)) := ⟨L, h, HL.out.1, HL.out.2.1, HL.out.2.2.1, HL.out.2.2.2.2.1, HL.out.2.2.2.2.2.1, HL.out.2.2.2.2.2.2.1, HUq.out, HPu.out, fun i hi => absurd hi (Nat.not_lt_zero _)⟩
      clear HL HUq HPu
      go_wp2
      go_loopg [14] K (fun m iv wx => ∃ j2 : Nat, m = K - j2 ∧ j2 ≤ K ∧ iv = .int .i64 j2 ∧ Hid (each = false → j2 = 0) ∧ Hid (∃ (L : List FS) (h : Nat), PtO wx P b 0 L h ∧ PtOk L h ∧ L.length = K ∧ Grow w wx ∧ w.heap.size ≤ P ∧ w.heap.size ≤ b ∧ Uq L ∧ Pu L ∧ (∀ i, i < j2 → L.getD i FS.empty = FS.empty)))
      case atStart => exact ⟨0, rfl, Nat.zero_le _, rfl, fun _ => rfl, HE0⟩
      case round =>
        clear HE0
        obtain ⟨j2, hj2', hjK, rfl, HZ0, HI2⟩ := hrel
        have HG2 : Hid (gk = K - j2) := hj2'
        clear hj2'
        obtain ⟨L, h, i1, i2, i3, i4, i5, i6, i7, i8, i9⟩ := HI2.out
        have HX : Hid (PtO wr P b 0 L h ∧ PtOk L h ∧ L.length = K ∧ Grow w wr ∧ w.heap.size ≤ P ∧ w.heap.size ≤ b ∧ Uq L ∧ Pu L ∧ (∀ i, i < j2 → L.getD i FS.empty = FS.empty)) := ⟨i1, i2, i3, i4, i5, i6, i7, i8, i9⟩
        clear HI2 i1 i2 i3 i4 i5 i6 i7 i8 i9
        cases each with
        | false =>
          have hz : j2 = 0 := HZ0.out rfl
          subst hz
          have hcl := clear_any wr P b 0 L h HX.out.1 (by have := HX.out.2.1.2.1; omega)
          rw [HX.out.2.2.1] at hcl
          have hk0 := HK.out.1
          have hlt0 : (0 : Int) < (K : Int) := by omega
          go_wp2_with fail
          refine hcl.mono ?_
          rintro e w2 ⟨rfl, k2, u2⟩
          have HE : Hid (∃ (L : List FS) (h : Nat), PtO w2 P b 0 L h ∧ PtOk L h ∧ L.length = K ∧ Grow w w2 ∧ w.heap.size ≤ P ∧ w.heap.size ≤ b ∧ (∀ i, i < K → L.getD i FS.empty = FS.empty) ∧ h = 0) := ⟨List.replicate K FS.empty, 0, k2, repl_ok hk0 (by have := HK.out.2; omega), List.length_replicate, UpdS.new HX.out.2.2.2.1 u2 (fun i hi => by have := HX.out.2.2.2.2; omega), HX.out.2.2.2.2.1, HX.out.2.2.2.2.2.1, fun i hi => repl_at hi, rfl⟩
          clear hcl k2 u2 HX hk0 hlt0
          go_wp2
          go_loopg [16] 5 (fun m iv wx => ∃ q : Nat, m = 5 - q ∧ q ≤ 5 ∧ iv = .int .i64 q ∧ Hid (∃ (L : List FS) (h : Nat), PtO wx P b 0 L h ∧ PtOk L h ∧ L.length = K ∧ Grow w wx ∧ w.heap.size ≤ P ∧ w.heap.size ≤ b ∧ (∀ i, i < K → L.getD i FS.empty = FS.empty) ∧ h = 0))
          case atStart => exact ⟨0, rfl, by omega, rfl, HE⟩
          case round =>
            clear HE
            obtain ⟨q, hq, hq5, rfl, HI4⟩ := hrel
            have HG4 : Hid (gk = 5 - q) := hq
            clear hq
            obtain ⟨L, h, i1, i2, i3, i4, i5, i6, i7, i8⟩ := HI4.out
            have HX : Hid (PtO wr P b 0 L h ∧ PtOk L h ∧ L.length = K ∧ Grow w wr ∧ w.heap.size ≤ P ∧ w.heap.size ≤ b ∧ (∀ i, i < K → L.getD i FS.empty = FS.empty) ∧ h = 0) := ⟨i1, i2, i3, i4, i5, i6, i7, i8⟩
            have hnf : ∀ x : Int, ¬ fnd x L < L.length := fun x hx => by
              have := fnd_of hx
              rw [i7 _ (by rw [← i3]; exact hx)] at this
              cases this
            by_cases hlt : q < 5
            · have hle : (q : Int) < 5 := by omega
              have HQ : Hid (q + 1 ≤ 5) := hlt
              have hwq : IntKind.i64.wrap ((q : Int) + 1) = ((q + 1 : Nat) : Int) := by rw [IntKind.wrap_i64]; omega
              have hfi := find_any wr P b 0 L h i1 i2.2.2 (q : Int)
              rw [(fnd_no (hnf _)).1, (fnd_no (hnf _)).2] at hfi
              have hgt := pget_any wr P b 0 L h i1 i2 (q : Int) 0 1 (by decide) (by decide)
              rw [getP_no (hnf _)] at hgt
              clear hlt hnf HI4 i1 i2 i3 i4 i5 i6 i7 i8
              go_wp2_with fail
              refine hfi.mono ?_
              rintro e w1 ⟨rfl, rfl⟩
              clear hfi
              go_wp2_with fail
              refine hgt.mono ?_
              rintro e w2 ⟨vg, rfl, rg, kg, ug⟩
              have HF : Hid (∃ (L : List FS) (h : Nat), PtO w2 P b 0 L h ∧ PtOk L h ∧ L.length = K ∧ Grow w w2 ∧ w.heap.size ≤ P ∧ w.heap.size ≤ b ∧ (∀ i, i < K → L.getD i FS.empty = FS.empty) ∧ h = 0) := ⟨L, h, kg, HX.out.2.1, HX.out.2.2.1, UpdS.new HX.out.2.2.2.1 ug (fun i hi => by have := HX.out.2.2.2.2; omega), HX.out.2.2.2.2.1, HX.out.2.2.2.2.2.1, HX.out.2.2.2.2.2.2.1, HX.out.2.2.2.2.2.2.2⟩
              obtain ⟨ag, cg, hvg⟩ := rg.shape
              subst hvg
              clear hgt rg kg ug HX
              go_wp2
              go_roundg (5 - (q + 1))
              case measure => have := HG4.out; have := HQ.out; omega
              case rel => exact ⟨q + 1, rfl, HQ.out, by go_num, HF⟩
            · have hge : ¬ (q : Int) < 5 := by omega
              have hem := pempty_any wr P b 0 L h i1 i2.2.2
              rw [(emptyL_iff L).2 (fun i hi => i7 i (by omega))] at hem
              have hhd := hand_any wr P b 0 L h i1
              rw [i8] at hhd
              have hlv := lives_any wr
              clear hnf HI4 i1 i2 i3 i4 i5 i6 i7 i8
              go_wp2_with fail
              refine hem.mono ?_
              rintro e w1 ⟨rfl, rfl⟩
              clear hem
              go_wp2_with fail
              refine hhd.mono ?_
              rintro e w1 ⟨rfl, rfl⟩
              clear hhd
              go_wp2_with fail
              refine hlv.mono ?_
              rintro e w2 ⟨rfl, g2⟩
              have HF : Hid (Grow w w2) := HX.out.2.2.2.1.trans g2
              clear hlv g2
              go_wp2
              go_ret
              exact ⟨rfl, HF.out⟩
        | true =>
          by_cases hlt : j2 < K
          · have hle : (j2 : Int) < (K : Int) := by omega
            have HJ2 : Hid (j2 + 1 ≤ K) := hlt
            have hw1 : IntKind.i64.wrap ((j2 : Int) + 1) = ((j2 + 1 : Nat) : Int) := by rw [IntKind.wrap_i64]; have := HK.out; omega
            have hlL : j2 < L.length := by rw [HX.out.2.2.1]; exact hlt
            have hat := at_any wr P b 0 L h HX.out.1 HX.out.2.1.2.2 (j2 : Int)
            rw [atL_yes hlL] at hat
            simp only [FS.arr] at hat
            obtain ⟨s, hs⟩ : ∃ s, L.getD j2 FS.empty = s := ⟨_, rfl⟩
            have HS0 : Hid (L.getD j2 FS.empty = s ∧ 0 ≤ s.p) := ⟨hs, by rw [← hs]; exact (HX.out.2.1.at hlL).2.2.1⟩
            rw [hs] at hat
            clear hs hlL hlt
            go_wp2_with fail
            refine hat.mono ?_
            rintro e w4 ⟨rfl, hsl, g4⟩
            have hst := put37 w4 s hsl
            have hl37 := FS.cells_len hsl
            have hfx := put37_at w4 s hsl
            rw [← zeroF_lit] at hst hfx
            clear hat
            go_wp2
            obtain ⟨M, hM⟩ : ∃ M, w4.heap.size = M := ⟨_, rfl⟩
            have HM : Hid (M ≠ P ∧ M ≠ b ∧ w.heap.size ≤ M) := by
              have h1 := (HX.out.1.grow g4).lt
              have h2 := (HX.out.1.grow g4).2.2.1
              have h3 := (HX.out.2.2.2.1.trans g4).size
              exact ⟨by omega, by omega, by omega⟩
            rw [hM] at hfx hst
            (try rw [hM])
            generalize (w4.alloc (.cells #[.bool false, .bool false, .bool false, .int .i64 0, .int .i64 0, .int .u8 0, .int .u8 0, .int .u8 0, .int .u8 0, .int .u8 0, .int .u8 0, .int .u8 0, .int .u8 0, .int .u8 0, .int .u8 0, .int .u8 0, .int .u8 0, .int .u8 0, .int .u8 0, .int .u8 0, .int .u8 0, .int .u8 0, .int .u8 0, .int .u8 0, .int .u8 0, .int .u8 0, .int .u8 0, .int .u8 0, .int .u8 0, .int .u8 0, .int .u8 0, .int .u8 0, .int .u8 0, .int .u8 0, .int .u8 0, .int .u8 0, .int .u8 0] 47)).setCells M 0 s.cells = w5 at hfx ⊢
            have HI3 : Hid (∃ (L : List FS) (m3 : Nat), s.p.toNat = m3 ∧ Hid (PtO w5 P b 0 L h ∧ PtOk L h ∧ L.length = K ∧ Grow w w5 ∧ w.heap.size ≤ P ∧ w.heap.size ≤ b ∧ Uq L ∧ Pu L ∧ (∀ i, i < j2 → L.getD i FS.empty = FS.empty) ∧ FrX w5 M 0 (L.getD j2 FS.empty) ∧ M ≠ P ∧ M ≠ b ∧ (L.getD j2 FS.empty).p = (m3 : Int) ∧ w.heap.size ≤ M)) := by
              obtain ⟨i1, i2, i3, i4, i5, i6, i7, i8, i9⟩ := HX.out
              refine ⟨L, s.p.toNat, rfl, (i1.grow g4).grow hfx.2, i2, i3, (i4.trans g4).trans hfx.2, i5, i6, i7, i8, i9, ?_, HM.out.1, HM.out.2.1, ?_, HM.out.2.2⟩
              · rw [HS0.out.1]; exact hfx.1
              · rw [HS0.out.1]; have := HS0.out.2; omega
            clear hst hl37 hfx g4 hM HX hsl
            go_loopg [] s.p.toNat (fun m wx => ∃ (L : List FS) (m3 : Nat), m = m3 ∧ Hid (PtO wx P b 0 L h ∧ PtOk L h ∧ L.length = K ∧ Grow w wx ∧ w.heap.size ≤ P ∧ w.heap.size ≤ b ∧ Uq L ∧ Pu L ∧ (∀ i, i < j2 → L.getD i FS.empty = FS.empty) ∧ FrX wx M 0 (L.getD j2 FS.empty) ∧ M ≠ P ∧ M ≠ b ∧ (L.getD j2 FS.empty).p = (m3 : Int) ∧ w.heap.size ≤ M))
            case atStart => exact HI3.out
            case round =>
              clear HI3
              obtain ⟨L, m3, hm3, HR3⟩ := hrel
              have HG3 : Hid (gk = m3) := hm3
              obtain ⟨⟨-, -, -, c3, c4⟩, -⟩ := FrO.five HR3.out.2.2.2.2.2.2.2.2.2.1
              have hlL : j2 < L.length := by rw [HR3.out.2.2.1]; have := HJ2.out; omega
              have HOK : Hid ((L.getD j2 FS.empty).Ok ∧ j2 < L.length) := ⟨HR3.out.2.1.at hlL, hlL⟩
              rw [HR3.out.2.2.2.2.2.2.2.2.2.2.2.2.1] at c3
              obtain ⟨q, hq⟩ : ∃ q, (L.getD j2 FS.empty).q = q := ⟨_, rfl⟩
              rw [hq] at c4
              clear hm3 hlL
              by_cases hm : 0 < m3
              · have hm' : (0 : Int) < (m3 : Int) := by omega
                have hun := punpin_any wr P b 0 L h HR3.out.1 HR3.out.2.1 q
                have hu : (L.getD j2 FS.empty).u = true := HR3.out.2.2.2.2.2.2.2.1 j2 HOK.out.2 (by rw [HR3.out.2.2.2.2.2.2.2.2.2.2.2.2.1]; exact hm')
                have hof : (L.getD j2 FS.empty).of q = true := by
                  show (_ && (_ == _)) = true
                  rw [hu, hq]; simp
                have hfn : fnd q L = j2 := Uq.fnd HR3.out.2.2.2.2.2.2.1 HOK.out.2 hof
                have hon : onP q unpinS L = (L.set j2 ⟨(L.getD j2 FS.empty).u, (L.getD j2 FS.empty).d, (L.getD j2 FS.empty).r, (L.getD j2 FS.empty).p - 1, (L.getD j2 FS.empty).q, (L.getD j2 FS.empty).bs⟩, 0) := by
                  rw [onP_yes (by rw [hfn]; exact HOK.out.2) hfn]
                  have : unpinS (L.getD j2 FS.empty) = (⟨(L.getD j2 FS.empty).u, (L.getD j2 FS.empty).d, (L.getD j2 FS.empty).r, (L.getD j2 FS.empty).p - 1, (L.getD j2 FS.empty).q, (L.getD j2 FS.empty).bs⟩, 0) := if_neg (by rw [HR3.out.2.2.2.2.2.2.2.2.2.2.2.2.1]; omega)
                  rw [this]
                rw [hon] at hun
                obtain ⟨s2, hs2⟩ : ∃ s2 : FS, s2 = ⟨(L.getD j2 FS.empty).u, (L.getD j2 FS.empty).d, (L.getD j2 FS.empty).r, (L.getD j2 FS.empty).p - 1, (L.getD j2 FS.empty).q, (L.getD j2 FS.empty).bs⟩ := ⟨_, rfl⟩
                rw [← hs2] at hun
                have HN : Hid (PtOk (L.set j2 s2) h ∧ (L.set j2 s2).length = K ∧ Uq (L.set j2 s2) ∧ Pu (L.set j2 s2) ∧ (∀ i, i < j2 → (L.set j2 s2).getD i FS.empty = FS.empty) ∧ (L.set j2 s2).getD j2 FS.empty = s2 ∧ s2.p = ((m3 - 1 : Nat) : Int) ∧ s2.bs.length = 32) := by
                  have hok := HOK.out.1
                  have hpp := HR3.out.2.2.2.2.2.2.2.2.2.2.2.2.1
                  have hs2ok : s2.Ok := by
                    rw [hs2]
                    have h3 := hok.2.2.2
                    exact ⟨hok.1, hok.2.1, by show 0 ≤ _ - 1; rw [hpp]; omega, by show _ - 1 ≤ 100; omega⟩
                  refine ⟨HR3.out.2.1.set hs2ok, by rw [List.length_set]; exact HR3.out.2.2.1, HR3.out.2.2.2.2.2.2.1.same HOK.out.2 (by rw [hs2]) (by rw [hs2]; exact fun h => h), Pu.set HR3.out.2.2.2.2.2.2.2.1 (fun _ => by rw [hs2]; exact hu), fun i hi => ?_, ?_, by rw [hs2]; show _ - 1 = _; rw [hpp]; omega, hs2ok.1⟩
                  · rw [getD_set (by have := HOK.out.2; omega), if_neg (by omega)]; exact HR3.out.2.2.2.2.2.2.2.2.1 i hi
                  · rw [getD_set HOK.out.2, if_pos rfl]
                clear hon hs2 hfn hof hu hq
                generalize L.set j2 s2 = L3 at hun HN
                go_wp2_with fail
                refine hun.mono ?_
                rintro e w6 ⟨rfl, k6, u6⟩
                have hat := at_any w6 P b 0 L3 h k6 HN.out.1.2.2 (j2 : Int)
                rw [atL_yes (by rw [HN.out.2.1]; have := HJ2.out; omega), HN.out.2.2.2.2.2.1] at hat
                simp only [FS.arr] at hat
                have H6 : Hid (PtO w6 P b 0 L3 h ∧ Grow w w6 ∧ FrX w6 M 0 (L.getD j2 FS.empty)) := ⟨k6, UpdS.new HR3.out.2.2.2.1 u6 (fun i hi => by have := HR3.out; omega), HR3.out.2.2.2.2.2.2.2.2.2.1.upd u6 (by have := HM.out; omega)⟩
                clear hun k6 u6
                go_wp2_with fail
                refine hat.mono ?_
                rintro e w7 ⟨rfl, hsl, g7⟩
                have FX := FrX.upd (S := fun _ => False) H6.out.2.2 g7.s (fun f => f)
                have hl37 := FS.cells_len hsl
                have hst := run_storeCells_cells (P := Try.prog) M 0 s2.cells 0 w7 (fun i hi => by rw [hl37] at hi; exact (FX.there i hi).1) (fun i hi => by rw [hl37] at hi; exact (FX.there i hi).2) s2.cells_one
                simp only [Nat.add_zero] at hst
                have HF : Hid (∃ (L : List FS) (m4 : Nat), m3 - 1 = m4 ∧ Hid (PtO (w7.setCells M 0 s2.cells) P b 0 L h ∧ PtOk L h ∧ L.length = K ∧ Grow w (w7.setCells M 0 s2.cells) ∧ w.heap.size ≤ P ∧ w.heap.size ≤ b ∧ Uq L ∧ Pu L ∧ (∀ i, i < j2 → L.getD i FS.empty = FS.empty) ∧ FrX (w7.setCells M 0 s2.cells) M 0 (L.getD j2 FS.empty) ∧ M ≠ P ∧ M ≠ b ∧ (L.getD j2 FS.empty).p = (m4 : Int) ∧ w.heap.size ≤ M)) := by
                  have uM := updS_row M 0 s2.cells w7
                  have hm := HM.out
                  obtain ⟨n1, n2, n3, n4, n5, n6, n7, n8⟩ := HN.out
                  refine ⟨L3, m3 - 1, rfl, (H6.out.1.grow g7).upd uM (by omega) (by omega), n1, n2, UpdS.new (H6.out.2.1.trans g7) uM (fun i hi => by omega), HR3.out.2.2.2.2.1, HR3.out.2.2.2.2.2.1, n3, n4, n5, ?_, hm.1, hm.2.1, ?_, hm.2.2⟩
                  · rw [n6]; exact FX.put hsl
                  · rw [n6]; exact n7
                clear hat g7 FX c3 c4
                go_wp2
                generalize w7.setCells M 0 s2.cells = w8 at HF ⊢
                clear hst hl37 hsl
                go_roundg (m3 - 1)
                case measure => have := HG3.out; omega
                case rel => exact HF.out
              · have hm' : ¬ (0 : Int) < (m3 : Int) := by omega
                have hrl := release_any wr P b 0 L h HR3.out.1 (j2 : Int)
                rw [relP_yes HOK.out.2 (by rw [HR3.out.2.2.2.2.2.2.2.2.2.2.2.2.1]; omega)] at hrl
                have HN : Hid (PtOk (L.set j2 FS.empty) h ∧ (L.set j2 FS.empty).length = K ∧ Uq (L.set j2 FS.empty) ∧ Pu (L.set j2 FS.empty) ∧ (∀ i, i < j2 + 1 → (L.set j2 FS.empty).getD i FS.empty = FS.empty)) := by
                  refine ⟨HR3.out.2.1.set FS.empty_ok, by rw [List.length_set]; exact HR3.out.2.2.1, HR3.out.2.2.2.2.2.2.1.set (fun h => by cases h), Pu.set HR3.out.2.2.2.2.2.2.2.1 (fun h => by cases h), fun i hi => ?_⟩
                  rw [getD_set (by have := HOK.out.2; omega)]
                  by_cases e : j2 = i
                  · rw [if_pos e]
                  · rw [if_neg e]; exact HR3.out.2.2.2.2.2.2.2.2.1 i (by omega)
                generalize L.set j2 FS.empty = L3 at hrl HN
                clear hm hq
                go_wp2_with fail
                refine hrl.mono ?_
                rintro e w6 ⟨rfl, k6, u6⟩
                have HF : Hid (∃ (L : List FS) (h : Nat), PtO w6 P b 0 L h ∧ PtOk L h ∧ L.length = K ∧ Grow w w6 ∧ w.heap.size ≤ P ∧ w.heap.size ≤ b ∧ Uq L ∧ Pu L ∧ (∀ i, i < j2 + 1 → L.getD i FS.empty = FS.empty)) := ⟨L3, h, k6, HN.out.1, HN.out.2.1, UpdS.new HR3.out.2.2.2.1 u6 (fun i hi => by have := HR3.out; omega), HR3.out.2.2.2.2.1, HR3.out.2.2.2.2.2.1, HN.out.2.2.1, HN.out.2.2.2.1, HN.out.2.2.2.2⟩
                clear hrl k6 u6 c3 c4 HR3
                go_wp2
                go_roundg (K - (j2 + 1))
                case measure => have := HG2.out; have := HJ2.out; omega
                case rel => exact ⟨j2 + 1, rfl, HJ2.out, by go_num, fun h => Bool.noConfusion h, HF⟩
          · have hge : ¬ (j2 : Int) < (K : Int) := by omega
            obtain rfl : K = j2 := by omega
            have HE : Hid (∃ (L : List FS) (h : Nat), PtO wr P b 0 L h ∧ PtOk L h ∧ L.length = K ∧ Grow w wr ∧ w.heap.size ≤ P ∧ w.heap.size ≤ b ∧ (∀ i, i < K → L.getD i FS.empty = FS.empty)) := by
              obtain ⟨i1, i2, i3, i4, i5, i6, i7, i8, i9⟩ := HX.out
              exact ⟨L, h, i1, i2, i3, i4, i5, i6, i9⟩
            clear HX
            go_wp2
            go_loopg [16] 5 (fun m iv wx => ∃ q : Nat, m = 5 - q ∧ q ≤ 5 ∧ iv = .int .i64 q ∧ Hid (∃ (L : List FS) (h : Nat), PtO wx P b 0 L h ∧ PtOk L h ∧ L.length = K ∧ Grow w wx ∧ w.heap.size ≤ P ∧ w.heap.size ≤ b ∧ (∀ i, i < K → L.getD i FS.empty = FS.empty)))
            case atStart => exact ⟨0, rfl, by omega, rfl, HE⟩
            case round =>
              clear HE
              obtain ⟨q, hq, hq5, rfl, HI4⟩ := hrel
              have HG4 : Hid (gk = 5 - q) := hq
              clear hq
              obtain ⟨L, h, i1, i2, i3, i4, i5, i6, i7⟩ := HI4.out
              have HX : Hid (PtO wr P b 0 L h ∧ PtOk L h ∧ L.length = K ∧ Grow w wr ∧ w.heap.size ≤ P ∧ w.heap.size ≤ b ∧ (∀ i, i < K → L.getD i FS.empty = FS.empty)) := ⟨i1, i2, i3, i4, i5, i6, i7⟩
              have hnf : ∀ x : Int, ¬ fnd x L < L.length := fun x hx => by
                have := fnd_of hx
                rw [i7 _ (by rw [← i3]; exact hx)] at this
                cases this
              by_cases hlt : q < 5
              · have hle : (q : Int) < 5 := by omega
                have HQ : Hid (q + 1 ≤ 5) := hlt
                have hwq : IntKind.i64.wrap ((q : Int) + 1) = ((q + 1 : Nat) : Int) := by rw [IntKind.wrap_i64]; omega
                have hfi := find_any wr P b 0 L h i1 i2.2.2 (q : Int)
                rw [(fnd_no (hnf _)).1, (fnd_no (hnf _)).2] at hfi
                have hgt := pget_any wr P b 0 L h i1 i2 (q : Int) 0 1 (by decide) (by decide)
                rw [getP_no (hnf _)] at hgt
                clear hlt hnf HI4 i1 i2 i3 i4 i5 i6 i7
                go_wp2_with fail
                refine hfi.mono ?_
                rintro e w1 ⟨rfl, rfl⟩
                clear hfi
                go_wp2_with fail
                refine hgt.mono ?_
                rintro e w2 ⟨vg, rfl, rg, kg, ug⟩
                have HF : Hid (∃ (L : List FS) (h : Nat), PtO w2 P b 0 L h ∧ PtOk L h ∧ L.length = K ∧ Grow w w2 ∧ w.heap.size ≤ P ∧ w.heap.size ≤ b ∧ (∀ i, i < K → L.getD i FS.empty = FS.empty)) := ⟨L, h, kg, HX.out.2.1, HX.out.2.2.1, UpdS.new HX.out.2.2.2.1 ug (fun i hi => by have := HX.out.2.2.2.2; omega), HX.out.2.2.2.2.1, HX.out.2.2.2.2.2.1, HX.out.2.2.2.2.2.2⟩
                obtain ⟨ag, cg, hvg⟩ := rg.shape
                subst hvg
                clear hgt rg kg ug HX
                go_wp2
                go_roundg (5 - (q + 1))
                case measure => have := HG4.out; have := HQ.out; omega
                case rel => exact ⟨q + 1, rfl, HQ.out, by go_num, HF⟩
              · have hge : ¬ (q : Int) < 5 := by omega
                have hem := pempty_any wr P b 0 L h i1 i2.2.2
                rw [(emptyL_iff L).2 (fun i hi => i7 i (by omega))] at hem
                have hlv := lives_any wr
                clear hnf HI4 i1 i2 i3 i4 i5 i6 i7
                go_wp2_with fail
                refine hem.mono ?_
                rintro e w1 ⟨rfl, rfl⟩
                clear hem
                go_wp2_with fail
                refine hlv.mono ?_
                rintro e w2 ⟨rfl, g2⟩
                have HF : Hid (Grow w w2) := HX.out.2.2.2.1.trans g2
                clear hlv g2
                go_wp2
                go_ret
                exact ⟨rfl, HF.out⟩
end Go.Proofs.Ythdhfojogckflaa
