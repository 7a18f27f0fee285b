/-
  The walk of DevicePlays. Conditions: the theorem's own.
-/
import Derived.Test.YtpkoiogdkaklfaaDevDoesW
import Derived.Test.YtpkoiogdkaklfaaDevLike
import Derived.Test.YtpkoiogdkaklfaaDevDocN
import Derived.Test.YtpkoiogdkaklfaaDevOs
namespace Go.Proofs.Ytpkoiogdkaklfaa
open Go.RowKit
set_option linter.unusedVariables false
set_option linter.unusedSimpArgs false

set_option maxRecDepth 16000 in
set_option maxHeartbeats 8000000 in
theorem devicePlays_walk (n : Int) (ao : Option Addr) (co : Nat) (os : List OV) (w : World) (hn : (Lit.int .i64 n).wf = true) (hos : RdS OV.cs 5 (fun i => i < w.heap.size) w (.slice ao os.length co) os) (hok : ∀ z ∈ os, OV.Ok w z) :
    Calls Try.prog 3 #[.int .i64 n, .slice ao os.length co] w fun e w' => e = .returned (.bool true) ∧ Grow w w' := by
  have har := around_any n 6 w hn (by omega) (by omega)
  have hab := around_bd n 6 (by omega)
  obtain ⟨K, hK⟩ := Int.eq_ofNat_of_zero_le (show 0 ≤ 1 + around n 6 by omega)
  have HK : Hid (1 ≤ K ∧ K ≤ 6) := ⟨by omega, by omega⟩
  have hdn := dnew_yes K w (by omega) (by omega)
  have hwa : IntKind.i64.wrap (1 + around n 6) = (K : Int) := by rw [IntKind.wrap_i64]; omega
  generalize around n 6 = r at har hwa
  clear hab hK
  have hol := hos.len
  have hoc := hos.caps.2
  unfold maxLen at hol hoc
  go_enter Try.func3, Try.ntmps3
  go_wp2_with fail
  refine har.mono ?_
  rintro e w1 ⟨rfl, rfl⟩
  go_wp2_with fail
  refine hdn.mono ?_
  rintro e w1 ⟨b, rfl, bl, bt, hD1, hg1, hb, hbl, hbt⟩
  have hqn := qnew_any (fun i => i ≠ b ∧ i ≠ bl ∧ i ≠ bt) K w1 (by have := HK.out; omega) (fun i hi => by have := hD1.lt; omega)
  have H1 : Hid (DevAt w1 (fun i => i ≠ b ∧ i ≠ bl ∧ i ≠ bt) b bl bt 0 (List.replicate K zcell) (List.replicate K []) [] ∧ Grow w w1) := ⟨hD1, hg1⟩
  have HBW0 : Hid (w.heap.size ≤ b ∧ w.heap.size ≤ bl ∧ w.heap.size ≤ bt) := ⟨hb, hbl, hbt⟩
  clear hD1 hg1 hb hbl hbt hdn har
  go_wp2_with fail
  refine hqn.mono ?_
  rintro e w2 ⟨lv, tv, hv, rfl, hQ2, hg2⟩
  obtain ⟨al, cl, rfl, -⟩ := hQ2.1.shape
  obtain ⟨at', ct, rfl, -⟩ := hQ2.2.1.shape
  obtain ⟨ah, ch, rfl⟩ := hQ2.2.2.shape
  simp only [List.length_replicate, List.length_nil] at hQ2 ⊢
  obtain ⟨B, hBe⟩ : ∃ B, w2.heap.size = B := ⟨_, rfl⟩
  have HBW : Hid (w.heap.size ≤ b ∧ w.heap.size ≤ bl ∧ w.heap.size ≤ bt ∧ w.heap.size ≤ B ∧ B ≠ b ∧ B ≠ bl ∧ B ≠ bt) := by
    have h1 := HBW0.out
    have h2 := (H1.out.1.grow hg2).lt
    have h3 := (H1.out.2.trans hg2).size
    exact ⟨h1.1, h1.2.1, h1.2.2, by omega, by omega, by omega, by omega⟩
  have H3 : Hid (∃ las lat hd lv tv hv, DevAt (w2.alloc (.cells #[.slice al K cl, .slice at' K ct, .slice ah 0 ch] 31)) (fun i => (i ≠ b ∧ i ≠ bl ∧ i ≠ bt) ∧ i ≠ B) b bl bt 0 las lat hd ∧ DocV (fun i => (i ≠ b ∧ i ≠ bl ∧ i ≠ bt) ∧ i ≠ B) (w2.alloc (.cells #[.slice al K cl, .slice at' K ct, .slice ah 0 ch] 31)) lv tv hv las lat hd ∧ VarAt (w2.alloc (.cells #[.slice al K cl, .slice at' K ct, .slice ah 0 ch] 31)) B [lv, tv, hv] ∧ Grow w (w2.alloc (.cells #[.slice al K cl, .slice at' K ct, .slice ah 0 ch] 31)) ∧ las.length = K) := by
    have hga : Grow w2 (w2.alloc (.cells #[.slice al K cl, .slice at' K ct, .slice ah 0 ch] 31)) := (Grow.refl w2).alloc _
    refine ⟨_, _, _, _, _, _, ((H1.out.1.grow hg2).beside (x := B) (by omega)).grow hga, (DocV.mono (q := (fun i => (i ≠ b ∧ i ≠ bl ∧ i ≠ bt) ∧ i ≠ B)) hQ2 (fun i hi hh => ⟨hh, by omega⟩)).grow hga, ?_, (H1.out.2.trans hg2).trans hga, by simp⟩
    rw [← hBe]
    exact VarAt.new w2 [.slice al K cl, .slice at' K ct, .slice ah 0 ch] 31
  clear H1 hQ2 hg2 hqn HBW0
  go_wp2
  (try rw [hBe])
  go_loopg [9] 16 (fun k i wr => ∃ j : Nat, k = 16 - j ∧ j ≤ 16 ∧ i = .int .i64 j ∧ Hid (∃ las lat hd lv tv hv, DevAt wr (fun i => (i ≠ b ∧ i ≠ bl ∧ i ≠ bt) ∧ i ≠ B) b bl bt j las lat hd ∧ DocV (fun i => (i ≠ b ∧ i ≠ bl ∧ i ≠ bt) ∧ i ≠ B) wr lv tv hv las lat hd ∧ VarAt wr B [lv, tv, hv] ∧ Grow w wr ∧ las.length = K))
  case atStart => exact ⟨0, rfl, Nat.zero_le _, rfl, H3⟩
  case round =>
    obtain ⟨j, hk, hj, rfl, HI⟩ := hrel
    by_cases hjo : j < os.length
    · have hjo' : (j : Int) < (os.length : Int) := by omega
      by_cases hj16 : j < 16
      · have hj16' : (j : Int) < 16 := by omega
        have HJ : Hid (j < 16 ∧ gk = 16 - j) := ⟨hj16, hk⟩
        clear hk hBe H3
        obtain ⟨las, lat, hd, lv, tv, hv, hD, hQ, hVB, hg, hlK⟩ := HI.out
        obtain ⟨al0, cl0, rfl, -⟩ := hQ.1.shape
        obtain ⟨at0', ct0, rfl, -⟩ := hQ.2.1.shape
        obtain ⟨ah0, ch0, rfl⟩ := hQ.2.2.shape
        generalize hLv : (Value.slice al0 las.length cl0) = lv at hQ hVB
        generalize hTv : (Value.slice at0' lat.length ct0) = tv at hQ hVB
        generalize hHv : (Value.slice ah0 hd.length ch0) = hv at hQ hVB
        obtain ⟨bo, oo, z, rfl, hzok, -, hzc⟩ := os_at hos hok hjo
        obtain ⟨zd, za, zt, zb, zk⟩ := z
        obtain ⟨⟨hzd, hza, hzt⟩, ⟨bs, hbs, hbo⟩, ks, hks⟩ := hzok
        simp only at hzc hzd hza hzt hbs hks
        have gd : Grow wr wr.drew := (Grow.refl wr).drew
        have hblk := hD.lt
        have hBlt := hVB.lt
        have HB : Hid (b < wr.heap.size ∧ bl < wr.heap.size ∧ bt < wr.heap.size ∧ B < wr.heap.size ∧ B ≠ b ∧ B ≠ bl ∧ B ≠ bt ∧ w.heap.size ≤ wr.heap.size) := by have h1 := HBW.out; have h2 := hg.size; exact ⟨hblk.1, hblk.2.1, hblk.2.2.1, hBlt, by omega, by omega, by omega, by omega⟩
        have HS : Hid (DevAt wr (fun i => (i ≠ b ∧ i ≠ bl ∧ i ≠ bt) ∧ i ≠ B) b bl bt j las lat hd ∧ DocV (fun i => (i ≠ b ∧ i ≠ bl ∧ i ≠ bt) ∧ i ≠ B) wr lv tv hv las lat hd ∧ VarAt wr B [lv, tv, hv] ∧ Grow w wr ∧ las.length = K) := ⟨hD, hQ, hVB, hg, hlK⟩
        have hdo : ∀ W (q : Nat → Prop), Grow wr W → (∀ i, wr.heap.size ≤ i → W.heap.size ≤ i → q i) → DevAt W q b bl bt j las lat hd → DocV q W lv tv hv las lat hd → Calls Try.prog 12 #[.pointer (some ⟨b, 0, none⟩), .agg #[lv, tv, hv], .agg #[.int .i64 zd, .int .i64 za, .int .i64 zt, zb, zk]] W fun e w' => ∃ lv' tv' hv', e = .returned (.tuple #[.agg #[lv', tv', hv'], .bool true]) ∧ ∃ las' lat' hd', DevAt w' q b bl bt (j + 1) las' lat' hd' ∧ DocV q w' lv' tv' hv' las' lat' hd' ∧ UpdS (fun i => i = b ∨ i = bl ∨ i = bt) W w' ∧ las'.length = las.length := fun W q g hq1 hD1 hQ1 =>
          ddoes_any W q b bl bt j las lat hd lv tv hv hD1 hQ1 (by have := HJ.out; omega) (fun i hi => hq1 i (by have := g.size; omega) hi) zd za zt hzd hza hzt zb zk bs ks ((hbs.mono (fun i hi _ => by have := HBW.out; omega)).grow (hg.trans g)) hbo ((hks.mono (fun i hi _ => by have := HBW.out; omega)).grow (hg.trans g))
        have fx : ∀ w', UpdS (fun i => i = b ∨ i = bl ∨ i = bt ∨ wr.heap.size ≤ i) wr.drew w' → ((w'.cell? ⟨B, 0, none⟩ = some lv ∧ w'.cell? ⟨B, 1, none⟩ = some tv ∧ w'.cell? ⟨B, 2, none⟩ = some hv) ∧ w'.cell? ⟨bo, oo + j * 5, none⟩ = some (.int .i64 zd) ∧ w'.cell? ⟨bo, oo + j * 5 + 1, none⟩ = some (.int .i64 za) ∧ w'.cell? ⟨bo, oo + j * 5 + 2, none⟩ = some (.int .i64 zt) ∧ w'.cell? ⟨bo, oo + j * 5 + 3, none⟩ = some zb ∧ w'.cell? ⟨bo, oo + j * 5 + 4, none⟩ = some zk) := fun w' g =>
          ⟨(((HS.out.2.2.1.grow gd).upd g (by have := HB.out; omega)).three).1, hzc w' (UpdS.new (HS.out.2.2.2.1.trans gd) g (fun i hi => by have h1 := HB.out; have h2 := HBW.out; omega))⟩
        obtain ⟨ab, cb, hzb⟩ := hbs.shape
        obtain ⟨ak, ck, hzk⟩ := hks.shape
        subst hzb hzk hLv hTv hHv
        clear hD hQ hVB hg hlK hzc hblk hBlt hzd hza hzt hbs hbo hks HI
        go_wp2
        refine wp_region_treeG (UpdS (fun i => i = b ∨ i = bl ∨ i = bt ∨ wr.heap.size ≤ i)) (UpdS.refl _) (fun _ _ _ => UpdS.trans) (by kernel_rfl) (.read 0 (.read 1 (.read 2 (.read 3 (.read 4 (.read 5 (.fork 6 (.read 7 (.read 8 (.read 9 (.act 10 (.act 11 (.read 12 .done)))))) 10 (.act 6 (.read 7 (.read 8 (.read 9 (.act 11 (.read 12 .done))))))))))))) (by kernel_rfl) (by kernel_rfl) rfl (fun _ _ d _ _ h => by cases d <;> exact h) ?_
        simp only [Tr.over, List.getElem?_toArray, List.getElem?_cons_zero, List.getElem?_cons_succ]
        repeat (first
          | (refine wpT_move rfl ?_; simp only [Act.eval, Act.put, Array.getD_eq_getD_getElem?, List.getElem?_toArray, List.getElem?_cons_zero, List.getElem?_cons_succ, Option.getD_some, List.setIfInBounds_toArray, List.set_cons_zero, List.set_cons_succ])
          | (refine wpT_assign rfl ?_; simp only [Act.eval, Act.put, Array.getD_eq_getD_getElem?, List.getElem?_toArray, List.getElem?_cons_zero, List.getElem?_cons_succ, Option.getD_some, List.setIfInBounds_toArray, List.set_cons_zero, List.set_cons_succ])
          | (refine wpT_read (v := ?_) rfl ?_ ?_; rotate_left; (focus (intro w' hG; obtain ⟨⟨q0, q1, q2⟩, q3, q4, q5, q6, q7⟩ := fx w' hG; go_simp; try (with_reducible rfl))); simp only [Act.put, List.setIfInBounds_toArray, List.set_cons_zero, List.set_cons_succ])
          | (refine wpT_skip rfl ?_; simp only [Act.put, List.setIfInBounds_toArray, List.set_cons_zero, List.set_cons_succ]))
        refine wpT_fork ?_ ?_
        · skip
          have hc1 := hdo wr.drew (fun i => (i ≠ b ∧ i ≠ bl ∧ i ≠ bt) ∧ i ≠ B) gd (fun i h1 _ => by have := HB.out; omega) (HS.out.1.grow gd) (HS.out.2.1.grow gd)
          refine wpT_call (f := ?_) (args := ?_) (by rfl) ?_ ?_
          rotate_left 2; focus (go_simp; constructor <;> with_reducible rfl)
          refine (hc1).mono ?_
          rintro e w1 ⟨lv1, tv1, hv1, rfl, las', lat', hd', hD1, hQ1, hu1, hl1⟩
          refine ⟨_, rfl, hu1.mono (fun i hi => by omega), ?_⟩
          simp only [Act.put, List.setIfInBounds_toArray, List.set_cons_zero, List.set_cons_succ]
          obtain ⟨a1, c1, rfl, -⟩ := hQ1.1.shape
          obtain ⟨a2, c2, rfl, -⟩ := hQ1.2.1.shape
          obtain ⟨a3, c3, rfl⟩ := hQ1.2.2.shape
          generalize las'.length = L1 at hQ1
          generalize lat'.length = L2 at hQ1
          generalize hd'.length = L3 at hQ1
          repeat (first
            | (refine wpT_move rfl ?_; simp only [Act.eval, Act.put, Array.getD_eq_getD_getElem?, List.getElem?_toArray, List.getElem?_cons_zero, List.getElem?_cons_succ, Option.getD_some, List.setIfInBounds_toArray, List.set_cons_zero, List.set_cons_succ])
            | (refine wpT_assign rfl ?_; simp only [Act.eval, Act.put, Array.getD_eq_getD_getElem?, List.getElem?_toArray, List.getElem?_cons_zero, List.getElem?_cons_succ, Option.getD_some, List.setIfInBounds_toArray, List.set_cons_zero, List.set_cons_succ])
            | (refine wpT_read (v := ?_) rfl ?_ ?_; rotate_left; (focus (intro w' hG; skip; go_simp; try (with_reducible rfl))); simp only [Act.put, List.setIfInBounds_toArray, List.set_cons_zero, List.set_cons_succ])
            | (refine wpT_skip rfl ?_; simp only [Act.put, List.setIfInBounds_toArray, List.set_cons_zero, List.set_cons_succ]))
          refine wpT_act (by rfl) (exec_allocV #[.slice none 0 0, .slice none 0 0, .slice none 0 0] zeroD) (Grow.s ((Grow.refl _).alloc _)) ?_
          simp only [Act.put, List.setIfInBounds_toArray, List.set_cons_zero, List.set_cons_succ]
          have V1 := VarAt.new w1 [.slice none 0 0, .slice none 0 0, .slice none 0 0] 31
          obtain ⟨⟨v0, v1, v2⟩, f0, f1, f2⟩ := V1.three
          have hu3 := upd_three (w1.alloc (.cells #[.slice none 0 0, .slice none 0 0, .slice none 0 0] 31)) w1.heap.size (.slice a1 L1 c1) (.slice a2 L2 c2) (.slice a3 L3 c3)
          have g13 : Grow w1 ((((w1.alloc (.cells #[.slice none 0 0, .slice none 0 0, .slice none 0 0] 31)).setCell ⟨w1.heap.size, 0, none⟩ (.slice a1 L1 c1)).setCell ⟨w1.heap.size, 1, none⟩ (.slice a2 L2 c2)).setCell ⟨w1.heap.size, 2, none⟩ (.slice a3 L3 c3)) := UpdS.new ((Grow.refl w1).alloc _) hu3 (fun i hi => by omega)
          have H3 : Hid (DevAt ((((w1.alloc (.cells #[.slice none 0 0, .slice none 0 0, .slice none 0 0] 31)).setCell ⟨w1.heap.size, 0, none⟩ (.slice a1 L1 c1)).setCell ⟨w1.heap.size, 1, none⟩ (.slice a2 L2 c2)).setCell ⟨w1.heap.size, 2, none⟩ (.slice a3 L3 c3)) (fun i => (i ≠ b ∧ i ≠ bl ∧ i ≠ bt) ∧ i ≠ B) b bl bt (j + 1) las' lat' hd' ∧ DocV (fun i => (i ≠ b ∧ i ≠ bl ∧ i ≠ bt) ∧ i ≠ B) ((((w1.alloc (.cells #[.slice none 0 0, .slice none 0 0, .slice none 0 0] 31)).setCell ⟨w1.heap.size, 0, none⟩ (.slice a1 L1 c1)).setCell ⟨w1.heap.size, 1, none⟩ (.slice a2 L2 c2)).setCell ⟨w1.heap.size, 2, none⟩ (.slice a3 L3 c3)) (.slice a1 L1 c1) (.slice a2 L2 c2) (.slice a3 L3 c3) las' lat' hd' ∧ VarAt ((((w1.alloc (.cells #[.slice none 0 0, .slice none 0 0, .slice none 0 0] 31)).setCell ⟨w1.heap.size, 0, none⟩ (.slice a1 L1 c1)).setCell ⟨w1.heap.size, 1, none⟩ (.slice a2 L2 c2)).setCell ⟨w1.heap.size, 2, none⟩ (.slice a3 L3 c3)) w1.heap.size [.slice a1 L1 c1, .slice a2 L2 c2, .slice a3 L3 c3] ∧ VarAt ((((w1.alloc (.cells #[.slice none 0 0, .slice none 0 0, .slice none 0 0] 31)).setCell ⟨w1.heap.size, 0, none⟩ (.slice a1 L1 c1)).setCell ⟨w1.heap.size, 1, none⟩ (.slice a2 L2 c2)).setCell ⟨w1.heap.size, 2, none⟩ (.slice a3 L3 c3)) B [.slice al0 las.length cl0, .slice at0' lat.length ct0, .slice ah0 hd.length ch0] ∧ Grow w ((((w1.alloc (.cells #[.slice none 0 0, .slice none 0 0, .slice none 0 0] 31)).setCell ⟨w1.heap.size, 0, none⟩ (.slice a1 L1 c1)).setCell ⟨w1.heap.size, 1, none⟩ (.slice a2 L2 c2)).setCell ⟨w1.heap.size, 2, none⟩ (.slice a3 L3 c3)) ∧ las'.length = K) := by
            have hB := HB.out
            have h0 := HS.out
            have hs1 := hu1.size
            have e0 : wr.drew.heap.size = wr.heap.size := rfl
            refine ⟨hD1.grow g13, DocV.grow hQ1 g13, ((V1.set 0 _).set 1 _).set 2 _, ((h0.2.2.1.grow gd).upd hu1 (by omega)).grow g13, ?_, by rw [hl1]; exact h0.2.2.2.2⟩
            exact (UpdS.new (h0.2.2.2.1.trans gd) hu1 (fun i hi => by have := HBW.out; omega)).trans g13
          refine wpT_store (w' := ((((w1.alloc (.cells #[.slice none 0 0, .slice none 0 0, .slice none 0 0] 31)).setCell ⟨w1.heap.size, 0, none⟩ (.slice a1 L1 c1)).setCell ⟨w1.heap.size, 1, none⟩ (.slice a2 L2 c2)).setCell ⟨w1.heap.size, 2, none⟩ (.slice a3 L3 c3))) (by rfl) (by go_simp) (hu3.mono (fun i hi => by have h1 := hu1.size; have e0 : wr.drew.heap.size = wr.heap.size := rfl; omega)) ?_
          simp only [Act.put, List.setIfInBounds_toArray, List.set_cons_zero, List.set_cons_succ]
          have HX : Hid (w1.heap.size ≠ B) := by have h1 := HB.out; have h2 := hu1.size; have e0 : wr.drew.heap.size = wr.heap.size := rfl; show w1.heap.size ≠ B; omega
          generalize ((((w1.alloc (.cells #[.slice none 0 0, .slice none 0 0, .slice none 0 0] 31)).setCell ⟨w1.heap.size, 0, none⟩ (.slice a1 L1 c1)).setCell ⟨w1.heap.size, 1, none⟩ (.slice a2 L2 c2)).setCell ⟨w1.heap.size, 2, none⟩ (.slice a3 L3 c3)) = w3 at H3 ⊢
          generalize w1.heap.size = X at H3 HX ⊢
          repeat (first
            | (refine wpT_move rfl ?_; simp only [Act.eval, Act.put, Array.getD_eq_getD_getElem?, List.getElem?_toArray, List.getElem?_cons_zero, List.getElem?_cons_succ, Option.getD_some, List.setIfInBounds_toArray, List.set_cons_zero, List.set_cons_succ])
            | (refine wpT_assign rfl ?_; simp only [Act.eval, Act.put, Array.getD_eq_getD_getElem?, List.getElem?_toArray, List.getElem?_cons_zero, List.getElem?_cons_succ, Option.getD_some, List.setIfInBounds_toArray, List.set_cons_zero, List.set_cons_succ])
            | (refine wpT_read (v := ?_) rfl ?_ ?_; rotate_left; (focus (intro w' hG; skip; go_simp; try (with_reducible rfl))); simp only [Act.put, List.setIfInBounds_toArray, List.set_cons_zero, List.set_cons_succ])
            | (refine wpT_skip rfl ?_; simp only [Act.put, List.setIfInBounds_toArray, List.set_cons_zero, List.set_cons_succ]))
          refine wpT_done ?_
          clear fx hdo hc1 hD1 hQ1 hu1 hl1 V1 v0 v1 v2 f0 f1 f2 hu3 g13
          obtain ⟨⟨x0, x1, x2⟩, -⟩ := H3.out.2.2.1.three
          obtain ⟨⟨y0, y1, y2⟩, e0, e1, e2⟩ := H3.out.2.2.2.1.three
          have H4 : Hid (DevAt (((w3.setCell ⟨B, 0, none⟩ (.slice a1 L1 c1)).setCell ⟨B, 1, none⟩ (.slice a2 L2 c2)).setCell ⟨B, 2, none⟩ (.slice a3 L3 c3)) (fun i => (i ≠ b ∧ i ≠ bl ∧ i ≠ bt) ∧ i ≠ B) b bl bt (j + 1) las' lat' hd' ∧ DocV (fun i => (i ≠ b ∧ i ≠ bl ∧ i ≠ bt) ∧ i ≠ B) (((w3.setCell ⟨B, 0, none⟩ (.slice a1 L1 c1)).setCell ⟨B, 1, none⟩ (.slice a2 L2 c2)).setCell ⟨B, 2, none⟩ (.slice a3 L3 c3)) (.slice a1 L1 c1) (.slice a2 L2 c2) (.slice a3 L3 c3) las' lat' hd' ∧ VarAt (((w3.setCell ⟨B, 0, none⟩ (.slice a1 L1 c1)).setCell ⟨B, 1, none⟩ (.slice a2 L2 c2)).setCell ⟨B, 2, none⟩ (.slice a3 L3 c3)) B [(.slice a1 L1 c1), (.slice a2 L2 c2), (.slice a3 L3 c3)] ∧ Grow w (((w3.setCell ⟨B, 0, none⟩ (.slice a1 L1 c1)).setCell ⟨B, 1, none⟩ (.slice a2 L2 c2)).setCell ⟨B, 2, none⟩ (.slice a3 L3 c3)) ∧ las'.length = K) := by
            have hu4 := upd_three w3 B (.slice a1 L1 c1) (.slice a2 L2 c2) (.slice a3 L3 c3)
            have hB := HB.out
            have h3 := H3.out
            exact ⟨h3.1.upd hu4 (by omega) (by omega) (by omega) (fun i _ hi => hi.2), h3.2.1.upd hu4 (fun i _ hi => hi.2), ((h3.2.2.2.1.set 0 _).set 1 _).set 2 _, UpdS.new h3.2.2.2.2.1 hu4 (fun i hi => by have := HBW.out; omega), h3.2.2.2.2.2⟩
          obtain ⟨w4, hw4⟩ : ∃ w4, (((w3.setCell ⟨B, 0, none⟩ (.slice a1 L1 c1)).setCell ⟨B, 1, none⟩ (.slice a2 L2 c2)).setCell ⟨B, 2, none⟩ (.slice a3 L3 c3)) = w4 := ⟨_, rfl⟩
          rw [hw4] at H4
          obtain ⟨⟨t0, t1, t2⟩, -⟩ := H4.out.2.2.1.three
          have hlk := dlike_any w4 _ _ b bl bt (j + 1) las' lat' hd' _ _ _ H4.out.1 H4.out.2.1
          clear H3
          go_wp2_with fail
          refine hlk.mono ?_
          rintro e w5 ⟨rfl, hg5⟩
          have H5 : Hid (∃ las lat hd lv tv hv, DevAt w5 (fun i => (i ≠ b ∧ i ≠ bl ∧ i ≠ bt) ∧ i ≠ B) b bl bt (j + 1) las lat hd ∧ DocV (fun i => (i ≠ b ∧ i ≠ bl ∧ i ≠ bt) ∧ i ≠ B) w5 lv tv hv las lat hd ∧ VarAt w5 B [lv, tv, hv] ∧ Grow w w5 ∧ las.length = K) := ⟨las', lat', hd', _, _, _, H4.out.1.grow hg5, H4.out.2.1.grow hg5, H4.out.2.2.1.grow hg5, H4.out.2.2.2.1.trans hg5, H4.out.2.2.2.2⟩
          clear hlk hg5 H4 x0 x1 x2 y0 y1 y2 e0 e1 e2 t0 t1 t2 hw4
          go_wp2
          go_roundg (16 - (j + 1))
          case measure => have := HJ.out; omega
          case rel => exact ⟨j + 1, rfl, by have := HJ.out; omega, by go_num, H5⟩
        · skip
          refine wpT_act (by rfl) (exec_allocV #[.slice none 0 0, .slice none 0 0, .slice none 0 0] zeroD) (Grow.s ((Grow.refl _).alloc _)) ?_
          simp only [Act.put, List.setIfInBounds_toArray, List.set_cons_zero, List.set_cons_succ]
          have V1 := VarAt.new wr.drew [.slice none 0 0, .slice none 0 0, .slice none 0 0] 31
          have HW : Hid (VarAt (wr.drew.alloc (.cells #[.slice none 0 0, .slice none 0 0, .slice none 0 0] 31)) wr.heap.size [.slice none 0 0, .slice none 0 0, .slice none 0 0] ∧ Grow wr (wr.drew.alloc (.cells #[.slice none 0 0, .slice none 0 0, .slice none 0 0] 31)) ∧ (wr.drew.alloc (.cells #[.slice none 0 0, .slice none 0 0, .slice none 0 0] 31)).heap.size = wr.heap.size + 1) := ⟨V1, gd.alloc _, by rw [World.size_alloc]; rfl⟩
          clear V1
          generalize wr.drew.alloc (.cells #[.slice none 0 0, .slice none 0 0, .slice none 0 0] 31) = w1 at HW ⊢
          have hc1 := hdo w1 (fun i => ((i ≠ b ∧ i ≠ bl ∧ i ≠ bt) ∧ i ≠ B) ∧ i ≠ wr.heap.size) HW.out.2.1 (fun i h1 h2 => by have h3 := HB.out; have h4 := HW.out.2.2; omega) ((HS.out.1.beside (x := wr.heap.size) (Nat.le_refl _)).grow HW.out.2.1) ((HS.out.2.1.mono (fun i hi hh => ⟨hh, by omega⟩)).grow HW.out.2.1)
          refine wpT_call (f := ?_) (args := ?_) (by rfl) ?_ ?_
          rotate_left 2; focus (go_simp; constructor <;> with_reducible rfl)
          refine (hc1).mono ?_
          rintro e w2 ⟨lv1, tv1, hv1, rfl, las', lat', hd', hD1, hQ1, hu1, hl1⟩
          refine ⟨_, rfl, hu1.mono (fun i hi => by omega), ?_⟩
          simp only [Act.put, List.setIfInBounds_toArray, List.set_cons_zero, List.set_cons_succ]
          obtain ⟨a1, c1, rfl, -⟩ := hQ1.1.shape
          obtain ⟨a2, c2, rfl, -⟩ := hQ1.2.1.shape
          obtain ⟨a3, c3, rfl⟩ := hQ1.2.2.shape
          generalize las'.length = L1 at hQ1
          generalize lat'.length = L2 at hQ1
          generalize hd'.length = L3 at hQ1
          repeat (first
            | (refine wpT_move rfl ?_; simp only [Act.eval, Act.put, Array.getD_eq_getD_getElem?, List.getElem?_toArray, List.getElem?_cons_zero, List.getElem?_cons_succ, Option.getD_some, List.setIfInBounds_toArray, List.set_cons_zero, List.set_cons_succ])
            | (refine wpT_assign rfl ?_; simp only [Act.eval, Act.put, Array.getD_eq_getD_getElem?, List.getElem?_toArray, List.getElem?_cons_zero, List.getElem?_cons_succ, Option.getD_some, List.setIfInBounds_toArray, List.set_cons_zero, List.set_cons_succ])
            | (refine wpT_read (v := ?_) rfl ?_ ?_; rotate_left; (focus (intro w' hG; skip; go_simp; try (with_reducible rfl))); simp only [Act.put, List.setIfInBounds_toArray, List.set_cons_zero, List.set_cons_succ])
            | (refine wpT_skip rfl ?_; simp only [Act.put, List.setIfInBounds_toArray, List.set_cons_zero, List.set_cons_succ]))
          have V1 := HW.out.1.upd hu1 (by have := HB.out; omega)
          obtain ⟨⟨v0, v1, v2⟩, f0, f1, f2⟩ := V1.three
          have hu3 := upd_three w2 wr.heap.size (.slice a1 L1 c1) (.slice a2 L2 c2) (.slice a3 L3 c3)
          have H3 : Hid (DevAt (((w2.setCell ⟨wr.heap.size, 0, none⟩ (.slice a1 L1 c1)).setCell ⟨wr.heap.size, 1, none⟩ (.slice a2 L2 c2)).setCell ⟨wr.heap.size, 2, none⟩ (.slice a3 L3 c3)) (fun i => (i ≠ b ∧ i ≠ bl ∧ i ≠ bt) ∧ i ≠ B) b bl bt (j + 1) las' lat' hd' ∧ DocV (fun i => (i ≠ b ∧ i ≠ bl ∧ i ≠ bt) ∧ i ≠ B) (((w2.setCell ⟨wr.heap.size, 0, none⟩ (.slice a1 L1 c1)).setCell ⟨wr.heap.size, 1, none⟩ (.slice a2 L2 c2)).setCell ⟨wr.heap.size, 2, none⟩ (.slice a3 L3 c3)) (.slice a1 L1 c1) (.slice a2 L2 c2) (.slice a3 L3 c3) las' lat' hd' ∧ VarAt (((w2.setCell ⟨wr.heap.size, 0, none⟩ (.slice a1 L1 c1)).setCell ⟨wr.heap.size, 1, none⟩ (.slice a2 L2 c2)).setCell ⟨wr.heap.size, 2, none⟩ (.slice a3 L3 c3)) wr.heap.size [.slice a1 L1 c1, .slice a2 L2 c2, .slice a3 L3 c3] ∧ VarAt (((w2.setCell ⟨wr.heap.size, 0, none⟩ (.slice a1 L1 c1)).setCell ⟨wr.heap.size, 1, none⟩ (.slice a2 L2 c2)).setCell ⟨wr.heap.size, 2, none⟩ (.slice a3 L3 c3)) B [.slice al0 las.length cl0, .slice at0' lat.length ct0, .slice ah0 hd.length ch0] ∧ Grow w (((w2.setCell ⟨wr.heap.size, 0, none⟩ (.slice a1 L1 c1)).setCell ⟨wr.heap.size, 1, none⟩ (.slice a2 L2 c2)).setCell ⟨wr.heap.size, 2, none⟩ (.slice a3 L3 c3)) ∧ las'.length = K) := by
            have hB := HB.out
            have h0 := HS.out
            refine ⟨(hD1.upd hu3 (by omega) (by omega) (by omega) (fun i _ hi => hi.2)).back (by omega), (hQ1.upd hu3 (fun i _ hi => hi.2)).mono (fun i _ hi => hi.1), ((V1.set 0 _).set 1 _).set 2 _, ((h0.2.2.1.grow HW.out.2.1).upd hu1 (by omega)).upd hu3 (by omega), ?_, by rw [hl1]; exact h0.2.2.2.2⟩
            exact UpdS.new (UpdS.new (h0.2.2.2.1.trans HW.out.2.1) hu1 (fun i hi => by have := HBW.out; omega)) hu3 (fun i hi => by omega)
          refine wpT_store (w' := (((w2.setCell ⟨wr.heap.size, 0, none⟩ (.slice a1 L1 c1)).setCell ⟨wr.heap.size, 1, none⟩ (.slice a2 L2 c2)).setCell ⟨wr.heap.size, 2, none⟩ (.slice a3 L3 c3))) (by rfl) (by go_simp) (hu3.mono (fun i hi => by omega)) ?_
          simp only [Act.put, List.setIfInBounds_toArray, List.set_cons_zero, List.set_cons_succ]
          have HX : Hid (wr.heap.size ≠ B) := by have h1 := HB.out; show wr.heap.size ≠ B; omega
          generalize (((w2.setCell ⟨wr.heap.size, 0, none⟩ (.slice a1 L1 c1)).setCell ⟨wr.heap.size, 1, none⟩ (.slice a2 L2 c2)).setCell ⟨wr.heap.size, 2, none⟩ (.slice a3 L3 c3)) = w3 at H3 ⊢
          repeat (first
            | (refine wpT_move rfl ?_; simp only [Act.eval, Act.put, Array.getD_eq_getD_getElem?, List.getElem?_toArray, List.getElem?_cons_zero, List.getElem?_cons_succ, Option.getD_some, List.setIfInBounds_toArray, List.set_cons_zero, List.set_cons_succ])
            | (refine wpT_assign rfl ?_; simp only [Act.eval, Act.put, Array.getD_eq_getD_getElem?, List.getElem?_toArray, List.getElem?_cons_zero, List.getElem?_cons_succ, Option.getD_some, List.setIfInBounds_toArray, List.set_cons_zero, List.set_cons_succ])
            | (refine wpT_read (v := ?_) rfl ?_ ?_; rotate_left; (focus (intro w' hG; skip; go_simp; try (with_reducible rfl))); simp only [Act.put, List.setIfInBounds_toArray, List.set_cons_zero, List.set_cons_succ])
            | (refine wpT_skip rfl ?_; simp only [Act.put, List.setIfInBounds_toArray, List.set_cons_zero, List.set_cons_succ]))
          refine wpT_done ?_
          clear fx hdo hc1 hD1 hQ1 hu1 hl1 V1 v0 v1 v2 f0 f1 f2 hu3 HW
          obtain ⟨⟨x0, x1, x2⟩, -⟩ := H3.out.2.2.1.three
          obtain ⟨⟨y0, y1, y2⟩, e0, e1, e2⟩ := H3.out.2.2.2.1.three
          have H4 : Hid (DevAt (((w3.setCell ⟨B, 0, none⟩ (.slice a1 L1 c1)).setCell ⟨B, 1, none⟩ (.slice a2 L2 c2)).setCell ⟨B, 2, none⟩ (.slice a3 L3 c3)) (fun i => (i ≠ b ∧ i ≠ bl ∧ i ≠ bt) ∧ i ≠ B) b bl bt (j + 1) las' lat' hd' ∧ DocV (fun i => (i ≠ b ∧ i ≠ bl ∧ i ≠ bt) ∧ i ≠ B) (((w3.setCell ⟨B, 0, none⟩ (.slice a1 L1 c1)).setCell ⟨B, 1, none⟩ (.slice a2 L2 c2)).setCell ⟨B, 2, none⟩ (.slice a3 L3 c3)) (.slice a1 L1 c1) (.slice a2 L2 c2) (.slice a3 L3 c3) las' lat' hd' ∧ VarAt (((w3.setCell ⟨B, 0, none⟩ (.slice a1 L1 c1)).setCell ⟨B, 1, none⟩ (.slice a2 L2 c2)).setCell ⟨B, 2, none⟩ (.slice a3 L3 c3)) B [(.slice a1 L1 c1), (.slice a2 L2 c2), (.slice a3 L3 c3)] ∧ Grow w (((w3.setCell ⟨B, 0, none⟩ (.slice a1 L1 c1)).setCell ⟨B, 1, none⟩ (.slice a2 L2 c2)).setCell ⟨B, 2, none⟩ (.slice a3 L3 c3)) ∧ las'.length = K) := by
            have hu4 := upd_three w3 B (.slice a1 L1 c1) (.slice a2 L2 c2) (.slice a3 L3 c3)
            have hB := HB.out
            have h3 := H3.out
            exact ⟨h3.1.upd hu4 (by omega) (by omega) (by omega) (fun i _ hi => hi.2), h3.2.1.upd hu4 (fun i _ hi => hi.2), ((h3.2.2.2.1.set 0 _).set 1 _).set 2 _, UpdS.new h3.2.2.2.2.1 hu4 (fun i hi => by have := HBW.out; omega), h3.2.2.2.2.2⟩
          obtain ⟨w4, hw4⟩ : ∃ w4, (((w3.setCell ⟨B, 0, none⟩ (.slice a1 L1 c1)).setCell ⟨B, 1, none⟩ (.slice a2 L2 c2)).setCell ⟨B, 2, none⟩ (.slice a3 L3 c3)) = w4 := ⟨_, rfl⟩
          rw [hw4] at H4
          obtain ⟨⟨t0, t1, t2⟩, -⟩ := H4.out.2.2.1.three
          have hlk := dlike_any w4 _ _ b bl bt (j + 1) las' lat' hd' _ _ _ H4.out.1 H4.out.2.1
          clear H3
          go_wp2_with fail
          refine hlk.mono ?_
          rintro e w5 ⟨rfl, hg5⟩
          have H5 : Hid (∃ las lat hd lv tv hv, DevAt w5 (fun i => (i ≠ b ∧ i ≠ bl ∧ i ≠ bt) ∧ i ≠ B) b bl bt (j + 1) las lat hd ∧ DocV (fun i => (i ≠ b ∧ i ≠ bl ∧ i ≠ bt) ∧ i ≠ B) w5 lv tv hv las lat hd ∧ VarAt w5 B [lv, tv, hv] ∧ Grow w w5 ∧ las.length = K) := ⟨las', lat', hd', _, _, _, H4.out.1.grow hg5, H4.out.2.1.grow hg5, H4.out.2.2.1.grow hg5, H4.out.2.2.2.1.trans hg5, H4.out.2.2.2.2⟩
          clear hlk hg5 H4 x0 x1 x2 y0 y1 y2 e0 e1 e2 t0 t1 t2 hw4
          go_wp2
          go_roundg (16 - (j + 1))
          case measure => have := HJ.out; omega
          case rel => exact ⟨j + 1, rfl, by have := HJ.out; omega, by go_num, H5⟩
      · have hj16' : ¬ (j : Int) < 16 := by omega
        obtain ⟨las, lat, hd, lv, tv, hv, hD, hQ, hVB, hg, hlK⟩ := HI.out
        clear hk H3
        go_wp2_with fail
        refine (dlives_any wr).mono ?_
        rintro e w2 ⟨rfl, hg2⟩
        go_wp2
        go_ret
        exact ⟨rfl, hg.trans hg2⟩
    · have hjo' : ¬ (j : Int) < (os.length : Int) := by omega
      obtain ⟨las, lat, hd, lv, tv, hv, hD, hQ, hVB, hg, hlK⟩ := HI.out
      clear hk H3
      go_wp2_with fail
      refine (dlives_any wr).mono ?_
      rintro e w2 ⟨rfl, hg2⟩
      go_wp2
      go_ret
      exact ⟨rfl, hg.trans hg2⟩
end Go.Proofs.Ytpkoiogdkaklfaa
