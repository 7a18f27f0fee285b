/-
  The walk of DeviceApart, a crash. Conditions: the theorem's own.
-/
import Derived.Test.YtpkoiogdkaklfaaDevDoesW
import Derived.Test.YtpkoiogdkaklfaaDevDocN
import Derived.Test.YtpkoiogdkaklfaaDevOs
import Derived.Test.YtpkoiogdkaklfaaDevBig
import Derived.Test.YtpkoiogdkaklfaaDevApart
namespace Go.Proofs.Ytpkoiogdkaklfaa
open Go.RowKit
set_option linter.unusedVariables false
set_option linter.unusedSimpArgs false

set_option maxRecDepth 16000 in
set_option maxHeartbeats 8000000 in
theorem deviceApart_crash (ao : Option Addr) (co : Nat) (os : List OV) (from0 to0 : Int) (ak : Option Addr) (ck : Nat) (ks : List Bool) (w : World) (hos : RdS OV.cs 5 (fun i => i < w.heap.size) w (.slice ao os.length co) os) (hok : ∀ z ∈ os, OV.Ok w z) (hfr : (Lit.int .i64 from0).wf = true) (hto : (Lit.int .i64 to0).wf = true) (hks : RdV Value.bool false (fun i => i < w.heap.size) w (.slice ak ks.length ck) ks) (hkr : ks.length ≤ 140737488355328) :
    Calls Try.prog 6 #[.slice ao os.length co, .int .i64 from0, .int .i64 to0, .bool true, .slice ak ks.length ck] w fun e w' => e = .returned (.bool true) ∧ Grow w w' := by
  have hdn : Calls Try.prog 10 #[.int .i64 8] w fun e w' => ∃ b, e = .returned (.tuple #[.pointer (some ⟨b, 0, none⟩), .int .i64 0]) ∧ ∃ bl bt, DevAt w' (fun i => i ≠ b ∧ i ≠ bl ∧ i ≠ bt) b bl bt 0 (List.replicate 8 zcell) (List.replicate 8 []) [] ∧ Grow w w' ∧ w.heap.size ≤ b ∧ w.heap.size ≤ bl ∧ w.heap.size ≤ bt := dnew_yes 8 w (by omega) (by omega)
  obtain ⟨K, HK⟩ : ∃ K : Nat, Hid (K = 8) := ⟨8, rfl⟩
  have hab := around_bd from0 9 (by omega)
  have hcb := around_bd to0 9 (by omega)
  obtain ⟨A, hA⟩ := Int.eq_ofNat_of_zero_le hab.1
  obtain ⟨C, hC⟩ := Int.eq_ofNat_of_zero_le hcb.1
  have hAw : (Lit.int .i64 (A : Int)).wf = true := wfI (by omega)
  have hCw : (Lit.int .i64 (C : Int)).wf = true := wfI (by omega)
  have hAb : (A : Int) ≤ 8 := by omega
  have hCb : (C : Int) ≤ 8 := by omega
  clear hab hcb
  have hol := hos.len
  have hoc := hos.caps.2
  have hkc := hks.caps.2
  unfold maxLen at hol hoc hkc
  have HA : Hid (around from0 9 = (A : Int) ∧ around to0 9 = (C : Int)) := ⟨hA, hC⟩
  clear hA hC
  go_enter Try.func6, Try.ntmps6
  go_wp2_with fail
  refine hdn.mono ?_
  rintro e w1 ⟨b, rfl, bl, bt, hD1, hg1, hb, hbl, hbt⟩
  have hqn : Calls Try.prog 11 #[.int .i64 8] w1 fun e w' => ∃ lv tv hv, e = .returned (.agg #[lv, tv, hv]) ∧ DocV (fun i => i ≠ b ∧ i ≠ bl ∧ i ≠ bt) w' lv tv hv (List.replicate 8 zcell) (List.replicate 8 []) [] ∧ Grow w1 w' := qnew_any (fun i => i ≠ b ∧ i ≠ bl ∧ i ≠ bt) 8 w1 (by omega) (fun i hi => by have := hD1.lt; omega)
  have H1 : Hid (DevAt w1 (fun i => i ≠ b ∧ i ≠ bl ∧ i ≠ bt) b bl bt 0 (List.replicate 8 zcell) (List.replicate 8 []) [] ∧ Grow w w1) := ⟨hD1, hg1⟩
  have HBW0 : Hid (w.heap.size ≤ b ∧ w.heap.size ≤ bl ∧ w.heap.size ≤ bt) := ⟨hb, hbl, hbt⟩
  clear hD1 hg1 hb hbl hbt hdn
  go_wp2_with fail
  refine hqn.mono ?_
  rintro e w2 ⟨lv, tv, hv, rfl, hQ2, hg2⟩
  obtain ⟨al, cl, rfl, -⟩ := hQ2.1.shape
  obtain ⟨at', ct, rfl, -⟩ := hQ2.2.1.shape
  obtain ⟨ah, ch, rfl⟩ := hQ2.2.2.shape
  simp only [List.length_replicate, List.length_nil] at hQ2 ⊢
  obtain ⟨B, hBe⟩ : ∃ B, w2.heap.size = B := ⟨_, rfl⟩
  have HBW : Hid (w.heap.size ≤ b ∧ w.heap.size ≤ bl ∧ w.heap.size ≤ bt ∧ w.heap.size ≤ B ∧ B ≠ b ∧ B ≠ bl ∧ B ≠ bt) := by
    have h1 := HBW0.out
    have h2 := (H1.out.1.grow hg2).lt
    have h3 := (H1.out.2.trans hg2).size
    exact ⟨h1.1, h1.2.1, h1.2.2, by omega, by omega, by omega, by omega⟩
  have H3 : Hid (∃ las lat hd lv tv hv, DevAt (w2.alloc (.cells #[.slice al 8 cl, .slice at' 8 ct, .slice ah 0 ch] 31)) (fun i => (i ≠ b ∧ i ≠ bl ∧ i ≠ bt) ∧ i ≠ B) b bl bt 0 las lat hd ∧ DocV (fun i => (i ≠ b ∧ i ≠ bl ∧ i ≠ bt) ∧ i ≠ B) (w2.alloc (.cells #[.slice al 8 cl, .slice at' 8 ct, .slice ah 0 ch] 31)) lv tv hv las lat hd ∧ VarAt (w2.alloc (.cells #[.slice al 8 cl, .slice at' 8 ct, .slice ah 0 ch] 31)) B [lv, tv, hv] ∧ Grow w (w2.alloc (.cells #[.slice al 8 cl, .slice at' 8 ct, .slice ah 0 ch] 31)) ∧ las.length = K) := by
    have hga : Grow w2 (w2.alloc (.cells #[.slice al 8 cl, .slice at' 8 ct, .slice ah 0 ch] 31)) := (Grow.refl w2).alloc _
    refine ⟨_, _, _, _, _, _, ((H1.out.1.grow hg2).beside (x := B) (by omega)).grow hga, (DocV.mono (q := (fun i => (i ≠ b ∧ i ≠ bl ∧ i ≠ bt) ∧ i ≠ B)) hQ2 (fun i hi hh => ⟨hh, by omega⟩)).grow hga, ?_, (H1.out.2.trans hg2).trans hga, by rw [List.length_replicate]; exact HK.out.symm⟩
    rw [← hBe]
    exact VarAt.new w2 [.slice al 8 cl, .slice at' 8 ct, .slice ah 0 ch] 31
  clear H1 hQ2 hg2 hqn HBW0
  go_wp2
  (try rw [hBe])
  go_loopg [14] 10 (fun k i wr => ∃ j : Nat, k = 10 - j ∧ j ≤ 10 ∧ i = .int .i64 j ∧ Hid (∃ las lat hd lv tv hv, DevAt wr (fun i => (i ≠ b ∧ i ≠ bl ∧ i ≠ bt) ∧ i ≠ B) b bl bt j las lat hd ∧ DocV (fun i => (i ≠ b ∧ i ≠ bl ∧ i ≠ bt) ∧ i ≠ B) wr lv tv hv las lat hd ∧ VarAt wr B [lv, tv, hv] ∧ Grow w wr ∧ las.length = K))
  case atStart => exact ⟨0, rfl, Nat.zero_le _, rfl, H3⟩
  case round =>
    obtain ⟨j, hk, hj, rfl, HI⟩ := hrel
    by_cases hjo : j < os.length
    · have hjo' : (j : Int) < (os.length : Int) := by omega
      by_cases hj16 : j < 10
      · have hj16' : (j : Int) < 10 := by omega
        have HJ : Hid (j < 10 ∧ gk = 10 - j) := ⟨hj16, hk⟩
        clear hk hBe H3
        obtain ⟨las, lat, hd, lv, tv, hv, hD, hQ, hVB, hg, hlK⟩ := HI.out
        obtain ⟨al0, cl0, rfl, -⟩ := hQ.1.shape
        obtain ⟨at0', ct0, rfl, -⟩ := hQ.2.1.shape
        obtain ⟨ah0, ch0, rfl⟩ := hQ.2.2.shape
        generalize hLv : (Value.slice al0 las.length cl0) = lv at hQ hVB
        generalize hTv : (Value.slice at0' lat.length ct0) = tv at hQ hVB
        generalize hHv : (Value.slice ah0 hd.length ch0) = hv at hQ hVB
        obtain ⟨bo, oo, z, rfl, hzok, -, hzc⟩ := os_at hos hok hjo
        obtain ⟨zd, za, zt, zb, zk⟩ := z
        obtain ⟨⟨hzd, hza, hzt⟩, ⟨bs, hbs, hbo⟩, ks, hks⟩ := hzok
        simp only at hzc hzd hza hzt hbs hks
        have gd : Grow wr wr.drew := (Grow.refl wr).drew
        have hblk := hD.lt
        have hBlt := hVB.lt
        have HB : Hid (b < wr.heap.size ∧ bl < wr.heap.size ∧ bt < wr.heap.size ∧ B < wr.heap.size ∧ B ≠ b ∧ B ≠ bl ∧ B ≠ bt ∧ w.heap.size ≤ wr.heap.size) := by have h1 := HBW.out; have h2 := hg.size; exact ⟨hblk.1, hblk.2.1, hblk.2.2.1, hBlt, by omega, by omega, by omega, by omega⟩
        have HS : Hid (DevAt wr (fun i => (i ≠ b ∧ i ≠ bl ∧ i ≠ bt) ∧ i ≠ B) b bl bt j las lat hd ∧ DocV (fun i => (i ≠ b ∧ i ≠ bl ∧ i ≠ bt) ∧ i ≠ B) wr lv tv hv las lat hd ∧ VarAt wr B [lv, tv, hv] ∧ Grow w wr ∧ las.length = K) := ⟨hD, hQ, hVB, hg, hlK⟩
        have hdo : ∀ W (q : Nat → Prop), Grow wr W → (∀ i, wr.heap.size ≤ i → W.heap.size ≤ i → q i) → DevAt W q b bl bt j las lat hd → DocV q W lv tv hv las lat hd → Calls Try.prog 12 #[.pointer (some ⟨b, 0, none⟩), .agg #[lv, tv, hv], .agg #[.int .i64 zd, .int .i64 za, .int .i64 zt, zb, zk]] W fun e w' => ∃ lv' tv' hv', e = .returned (.tuple #[.agg #[lv', tv', hv'], .bool true]) ∧ ∃ las' lat' hd', DevAt w' q b bl bt (j + 1) las' lat' hd' ∧ DocV q w' lv' tv' hv' las' lat' hd' ∧ UpdS (fun i => i = b ∨ i = bl ∨ i = bt) W w' ∧ las'.length = las.length := fun W q g hq1 hD1 hQ1 =>
          ddoes_any W q b bl bt j las lat hd lv tv hv hD1 hQ1 (by have := HJ.out; omega) (fun i hi => hq1 i (by have := g.size; omega) hi) zd za zt hzd hza hzt zb zk bs ks ((hbs.mono (fun i hi _ => by have := HBW.out; omega)).grow (hg.trans g)) hbo ((hks.mono (fun i hi _ => by have := HBW.out; omega)).grow (hg.trans g))
        have fx : ∀ w', UpdS (fun i => i = b ∨ i = bl ∨ i = bt ∨ wr.heap.size ≤ i) wr.drew w' → ((w'.cell? ⟨B, 0, none⟩ = some lv ∧ w'.cell? ⟨B, 1, none⟩ = some tv ∧ w'.cell? ⟨B, 2, none⟩ = some hv) ∧ w'.cell? ⟨bo, oo + j * 5, none⟩ = some (.int .i64 zd) ∧ w'.cell? ⟨bo, oo + j * 5 + 1, none⟩ = some (.int .i64 za) ∧ w'.cell? ⟨bo, oo + j * 5 + 2, none⟩ = some (.int .i64 zt) ∧ w'.cell? ⟨bo, oo + j * 5 + 3, none⟩ = some zb ∧ w'.cell? ⟨bo, oo + j * 5 + 4, none⟩ = some zk) := fun w' g =>
          ⟨(((HS.out.2.2.1.grow gd).upd g (by have := HB.out; omega)).three).1, hzc w' (UpdS.new (HS.out.2.2.2.1.trans gd) g (fun i hi => by have h1 := HB.out; have h2 := HBW.out; omega))⟩
        obtain ⟨ab, cb, hzb⟩ := hbs.shape
        obtain ⟨ak, ck, hzk⟩ := hks.shape
        subst hzb hzk hLv hTv hHv
        clear hD hQ hVB hg hlK hzc hblk hBlt hzd hza hzt hbs hbo hks HI
        go_wp2
        refine wp_region_treeG (UpdS (fun i => i = b ∨ i = bl ∨ i = bt ∨ wr.heap.size ≤ i)) (UpdS.refl _) (fun _ _ _ => UpdS.trans) (by kernel_rfl) (.read 0 (.read 1 (.read 2 (.read 3 (.read 4 (.read 5 (.fork 6 (.read 7 (.read 8 (.read 9 (.act 10 (.act 11 (.read 12 .done)))))) 10 (.act 6 (.read 7 (.read 8 (.read 9 (.act 11 (.read 12 .done))))))))))))) (by kernel_rfl) (by kernel_rfl) rfl (fun _ _ d _ _ h => by cases d <;> exact h) ?_
        simp only [Tr.over, List.getElem?_toArray, List.getElem?_cons_zero, List.getElem?_cons_succ]
        repeat (first
          | (refine wpT_move rfl ?_; simp only [Act.eval, Act.put, Array.getD_eq_getD_getElem?, List.getElem?_toArray, List.getElem?_cons_zero, List.getElem?_cons_succ, Option.getD_some, List.setIfInBounds_toArray, List.set_cons_zero, List.set_cons_succ])
          | (refine wpT_assign rfl ?_; simp only [Act.eval, Act.put, Array.getD_eq_getD_getElem?, List.getElem?_toArray, List.getElem?_cons_zero, List.getElem?_cons_succ, Option.getD_some, List.setIfInBounds_toArray, List.set_cons_zero, List.set_cons_succ])
          | (refine wpT_read (v := ?_) rfl ?_ ?_; rotate_left; (focus (intro w' hG; obtain ⟨⟨q0, q1, q2⟩, q3, q4, q5, q6, q7⟩ := fx w' hG; go_simp; try (with_reducible rfl))); simp only [Act.put, List.setIfInBounds_toArray, List.set_cons_zero, List.set_cons_succ])
          | (refine wpT_skip rfl ?_; simp only [Act.put, List.setIfInBounds_toArray, List.set_cons_zero, List.set_cons_succ]))
        refine wpT_fork ?_ ?_
        · skip
          have hc1 := hdo wr.drew (fun i => (i ≠ b ∧ i ≠ bl ∧ i ≠ bt) ∧ i ≠ B) gd (fun i h1 _ => by have := HB.out; omega) (HS.out.1.grow gd) (HS.out.2.1.grow gd)
          refine wpT_call (f := ?_) (args := ?_) (by rfl) ?_ ?_
          rotate_left 2; focus (go_simp; constructor <;> with_reducible rfl)
          refine (hc1).mono ?_
          rintro e w1 ⟨lv1, tv1, hv1, rfl, las', lat', hd', hD1, hQ1, hu1, hl1⟩
          refine ⟨_, rfl, hu1.mono (fun i hi => by omega), ?_⟩
          simp only [Act.put, List.setIfInBounds_toArray, List.set_cons_zero, List.set_cons_succ]
          obtain ⟨a1, c1, rfl, -⟩ := hQ1.1.shape
          obtain ⟨a2, c2, rfl, -⟩ := hQ1.2.1.shape
          obtain ⟨a3, c3, rfl⟩ := hQ1.2.2.shape
          generalize las'.length = L1 at hQ1
          generalize lat'.length = L2 at hQ1
          generalize hd'.length = L3 at hQ1
          repeat (first
            | (refine wpT_move rfl ?_; simp only [Act.eval, Act.put, Array.getD_eq_getD_getElem?, List.getElem?_toArray, List.getElem?_cons_zero, List.getElem?_cons_succ, Option.getD_some, List.setIfInBounds_toArray, List.set_cons_zero, List.set_cons_succ])
            | (refine wpT_assign rfl ?_; simp only [Act.eval, Act.put, Array.getD_eq_getD_getElem?, List.getElem?_toArray, List.getElem?_cons_zero, List.getElem?_cons_succ, Option.getD_some, List.setIfInBounds_toArray, List.set_cons_zero, List.set_cons_succ])
            | (refine wpT_read (v := ?_) rfl ?_ ?_; rotate_left; (focus (intro w' hG; skip; go_simp; try (with_reducible rfl))); simp only [Act.put, List.setIfInBounds_toArray, List.set_cons_zero, List.set_cons_succ])
            | (refine wpT_skip rfl ?_; simp only [Act.put, List.setIfInBounds_toArray, List.set_cons_zero, List.set_cons_succ]))
          refine wpT_act (by rfl) (exec_allocV #[.slice none 0 0, .slice none 0 0, .slice none 0 0] zeroD) (Grow.s ((Grow.refl _).alloc _)) ?_
          simp only [Act.put, List.setIfInBounds_toArray, List.set_cons_zero, List.set_cons_succ]
          have V1 := VarAt.new w1 [.slice none 0 0, .slice none 0 0, .slice none 0 0] 31
          obtain ⟨⟨v0, v1, v2⟩, f0, f1, f2⟩ := V1.three
          have hu3 := upd_three (w1.alloc (.cells #[.slice none 0 0, .slice none 0 0, .slice none 0 0] 31)) w1.heap.size (.slice a1 L1 c1) (.slice a2 L2 c2) (.slice a3 L3 c3)
          have g13 : Grow w1 ((((w1.alloc (.cells #[.slice none 0 0, .slice none 0 0, .slice none 0 0] 31)).setCell ⟨w1.heap.size, 0, none⟩ (.slice a1 L1 c1)).setCell ⟨w1.heap.size, 1, none⟩ (.slice a2 L2 c2)).setCell ⟨w1.heap.size, 2, none⟩ (.slice a3 L3 c3)) := UpdS.new ((Grow.refl w1).alloc _) hu3 (fun i hi => by omega)
          have H3 : Hid (DevAt ((((w1.alloc (.cells #[.slice none 0 0, .slice none 0 0, .slice none 0 0] 31)).setCell ⟨w1.heap.size, 0, none⟩ (.slice a1 L1 c1)).setCell ⟨w1.heap.size, 1, none⟩ (.slice a2 L2 c2)).setCell ⟨w1.heap.size, 2, none⟩ (.slice a3 L3 c3)) (fun i => (i ≠ b ∧ i ≠ bl ∧ i ≠ bt) ∧ i ≠ B) b bl bt (j + 1) las' lat' hd' ∧ DocV (fun i => (i ≠ b ∧ i ≠ bl ∧ i ≠ bt) ∧ i ≠ B) ((((w1.alloc (.cells #[.slice none 0 0, .slice none 0 0, .slice none 0 0] 31)).setCell ⟨w1.heap.size, 0, none⟩ (.slice a1 L1 c1)).setCell ⟨w1.heap.size, 1, none⟩ (.slice a2 L2 c2)).setCell ⟨w1.heap.size, 2, none⟩ (.slice a3 L3 c3)) (.slice a1 L1 c1) (.slice a2 L2 c2) (.slice a3 L3 c3) las' lat' hd' ∧ VarAt ((((w1.alloc (.cells #[.slice none 0 0, .slice none 0 0, .slice none 0 0] 31)).setCell ⟨w1.heap.size, 0, none⟩ (.slice a1 L1 c1)).setCell ⟨w1.heap.size, 1, none⟩ (.slice a2 L2 c2)).setCell ⟨w1.heap.size, 2, none⟩ (.slice a3 L3 c3)) w1.heap.size [.slice a1 L1 c1, .slice a2 L2 c2, .slice a3 L3 c3] ∧ VarAt ((((w1.alloc (.cells #[.slice none 0 0, .slice none 0 0, .slice none 0 0] 31)).setCell ⟨w1.heap.size, 0, none⟩ (.slice a1 L1 c1)).setCell ⟨w1.heap.size, 1, none⟩ (.slice a2 L2 c2)).setCell ⟨w1.heap.size, 2, none⟩ (.slice a3 L3 c3)) B [.slice al0 las.length cl0, .slice at0' lat.length ct0, .slice ah0 hd.length ch0] ∧ Grow w ((((w1.alloc (.cells #[.slice none 0 0, .slice none 0 0, .slice none 0 0] 31)).setCell ⟨w1.heap.size, 0, none⟩ (.slice a1 L1 c1)).setCell ⟨w1.heap.size, 1, none⟩ (.slice a2 L2 c2)).setCell ⟨w1.heap.size, 2, none⟩ (.slice a3 L3 c3)) ∧ las'.length = K) := by
            have hB := HB.out
            have h0 := HS.out
            have hs1 := hu1.size
            have e0 : wr.drew.heap.size = wr.heap.size := rfl
            refine ⟨hD1.grow g13, DocV.grow hQ1 g13, ((V1.set 0 _).set 1 _).set 2 _, ((h0.2.2.1.grow gd).upd hu1 (by omega)).grow g13, ?_, by rw [hl1]; exact h0.2.2.2.2⟩
            exact (UpdS.new (h0.2.2.2.1.trans gd) hu1 (fun i hi => by have := HBW.out; omega)).trans g13
          refine wpT_store (w' := ((((w1.alloc (.cells #[.slice none 0 0, .slice none 0 0, .slice none 0 0] 31)).setCell ⟨w1.heap.size, 0, none⟩ (.slice a1 L1 c1)).setCell ⟨w1.heap.size, 1, none⟩ (.slice a2 L2 c2)).setCell ⟨w1.heap.size, 2, none⟩ (.slice a3 L3 c3))) (by rfl) (by go_simp) (hu3.mono (fun i hi => by have h1 := hu1.size; have e0 : wr.drew.heap.size = wr.heap.size := rfl; omega)) ?_
          simp only [Act.put, List.setIfInBounds_toArray, List.set_cons_zero, List.set_cons_succ]
          have HX : Hid (w1.heap.size ≠ B) := by have h1 := HB.out; have h2 := hu1.size; have e0 : wr.drew.heap.size = wr.heap.size := rfl; show w1.heap.size ≠ B; omega
          generalize ((((w1.alloc (.cells #[.slice none 0 0, .slice none 0 0, .slice none 0 0] 31)).setCell ⟨w1.heap.size, 0, none⟩ (.slice a1 L1 c1)).setCell ⟨w1.heap.size, 1, none⟩ (.slice a2 L2 c2)).setCell ⟨w1.heap.size, 2, none⟩ (.slice a3 L3 c3)) = w3 at H3 ⊢
          generalize w1.heap.size = X at H3 HX ⊢
          repeat (first
            | (refine wpT_move rfl ?_; simp only [Act.eval, Act.put, Array.getD_eq_getD_getElem?, List.getElem?_toArray, List.getElem?_cons_zero, List.getElem?_cons_succ, Option.getD_some, List.setIfInBounds_toArray, List.set_cons_zero, List.set_cons_succ])
            | (refine wpT_assign rfl ?_; simp only [Act.eval, Act.put, Array.getD_eq_getD_getElem?, List.getElem?_toArray, List.getElem?_cons_zero, List.getElem?_cons_succ, Option.getD_some, List.setIfInBounds_toArray, List.set_cons_zero, List.set_cons_succ])
            | (refine wpT_read (v := ?_) rfl ?_ ?_; rotate_left; (focus (intro w' hG; skip; go_simp; try (with_reducible rfl))); simp only [Act.put, List.setIfInBounds_toArray, List.set_cons_zero, List.set_cons_succ])
            | (refine wpT_skip rfl ?_; simp only [Act.put, List.setIfInBounds_toArray, List.set_cons_zero, List.set_cons_succ]))
          refine wpT_done ?_
          clear fx hdo hc1 hD1 hQ1 hu1 hl1 V1 v0 v1 v2 f0 f1 f2 hu3 g13
          obtain ⟨⟨x0, x1, x2⟩, -⟩ := H3.out.2.2.1.three
          obtain ⟨⟨y0, y1, y2⟩, e0, e1, e2⟩ := H3.out.2.2.2.1.three
          have H4 : Hid (DevAt (((w3.setCell ⟨B, 0, none⟩ (.slice a1 L1 c1)).setCell ⟨B, 1, none⟩ (.slice a2 L2 c2)).setCell ⟨B, 2, none⟩ (.slice a3 L3 c3)) (fun i => (i ≠ b ∧ i ≠ bl ∧ i ≠ bt) ∧ i ≠ B) b bl bt (j + 1) las' lat' hd' ∧ DocV (fun i => (i ≠ b ∧ i ≠ bl ∧ i ≠ bt) ∧ i ≠ B) (((w3.setCell ⟨B, 0, none⟩ (.slice a1 L1 c1)).setCell ⟨B, 1, none⟩ (.slice a2 L2 c2)).setCell ⟨B, 2, none⟩ (.slice a3 L3 c3)) (.slice a1 L1 c1) (.slice a2 L2 c2) (.slice a3 L3 c3) las' lat' hd' ∧ VarAt (((w3.setCell ⟨B, 0, none⟩ (.slice a1 L1 c1)).setCell ⟨B, 1, none⟩ (.slice a2 L2 c2)).setCell ⟨B, 2, none⟩ (.slice a3 L3 c3)) B [(.slice a1 L1 c1), (.slice a2 L2 c2), (.slice a3 L3 c3)] ∧ Grow w (((w3.setCell ⟨B, 0, none⟩ (.slice a1 L1 c1)).setCell ⟨B, 1, none⟩ (.slice a2 L2 c2)).setCell ⟨B, 2, none⟩ (.slice a3 L3 c3)) ∧ las'.length = K) := by
            have hu4 := upd_three w3 B (.slice a1 L1 c1) (.slice a2 L2 c2) (.slice a3 L3 c3)
            have hB := HB.out
            have h3 := H3.out
            exact ⟨h3.1.upd hu4 (by omega) (by omega) (by omega) (fun i _ hi => hi.2), h3.2.1.upd hu4 (fun i _ hi => hi.2), ((h3.2.2.2.1.set 0 _).set 1 _).set 2 _, UpdS.new h3.2.2.2.2.1 hu4 (fun i hi => by have := HBW.out; omega), h3.2.2.2.2.2⟩
          obtain ⟨w4, hw4⟩ : ∃ w4, (((w3.setCell ⟨B, 0, none⟩ (.slice a1 L1 c1)).setCell ⟨B, 1, none⟩ (.slice a2 L2 c2)).setCell ⟨B, 2, none⟩ (.slice a3 L3 c3)) = w4 := ⟨_, rfl⟩
          rw [hw4] at H4
          have H5 : Hid (∃ las lat hd lv tv hv, DevAt w4 (fun i => (i ≠ b ∧ i ≠ bl ∧ i ≠ bt) ∧ i ≠ B) b bl bt (j + 1) las lat hd ∧ DocV (fun i => (i ≠ b ∧ i ≠ bl ∧ i ≠ bt) ∧ i ≠ B) w4 lv tv hv las lat hd ∧ VarAt w4 B [lv, tv, hv] ∧ Grow w w4 ∧ las.length = K) := ⟨las', lat', hd', _, _, _, H4.out⟩
          clear H3 H4
          go_wp2
          go_roundg (10 - (j + 1))
          case measure => have := HJ.out; omega
          case rel => exact ⟨j + 1, rfl, by have := HJ.out; omega, by go_num, H5⟩
        · skip
          refine wpT_act (by rfl) (exec_allocV #[.slice none 0 0, .slice none 0 0, .slice none 0 0] zeroD) (Grow.s ((Grow.refl _).alloc _)) ?_
          simp only [Act.put, List.setIfInBounds_toArray, List.set_cons_zero, List.set_cons_succ]
          have V1 := VarAt.new wr.drew [.slice none 0 0, .slice none 0 0, .slice none 0 0] 31
          have HW : Hid (VarAt (wr.drew.alloc (.cells #[.slice none 0 0, .slice none 0 0, .slice none 0 0] 31)) wr.heap.size [.slice none 0 0, .slice none 0 0, .slice none 0 0] ∧ Grow wr (wr.drew.alloc (.cells #[.slice none 0 0, .slice none 0 0, .slice none 0 0] 31)) ∧ (wr.drew.alloc (.cells #[.slice none 0 0, .slice none 0 0, .slice none 0 0] 31)).heap.size = wr.heap.size + 1) := ⟨V1, gd.alloc _, by rw [World.size_alloc]; rfl⟩
          clear V1
          generalize wr.drew.alloc (.cells #[.slice none 0 0, .slice none 0 0, .slice none 0 0] 31) = w1 at HW ⊢
          have hc1 := hdo w1 (fun i => ((i ≠ b ∧ i ≠ bl ∧ i ≠ bt) ∧ i ≠ B) ∧ i ≠ wr.heap.size) HW.out.2.1 (fun i h1 h2 => by have h3 := HB.out; have h4 := HW.out.2.2; omega) ((HS.out.1.beside (x := wr.heap.size) (Nat.le_refl _)).grow HW.out.2.1) ((HS.out.2.1.mono (fun i hi hh => ⟨hh, by omega⟩)).grow HW.out.2.1)
          refine wpT_call (f := ?_) (args := ?_) (by rfl) ?_ ?_
          rotate_left 2; focus (go_simp; constructor <;> with_reducible rfl)
          refine (hc1).mono ?_
          rintro e w2 ⟨lv1, tv1, hv1, rfl, las', lat', hd', hD1, hQ1, hu1, hl1⟩
          refine ⟨_, rfl, hu1.mono (fun i hi => by omega), ?_⟩
          simp only [Act.put, List.setIfInBounds_toArray, List.set_cons_zero, List.set_cons_succ]
          obtain ⟨a1, c1, rfl, -⟩ := hQ1.1.shape
          obtain ⟨a2, c2, rfl, -⟩ := hQ1.2.1.shape
          obtain ⟨a3, c3, rfl⟩ := hQ1.2.2.shape
          generalize las'.length = L1 at hQ1
          generalize lat'.length = L2 at hQ1
          generalize hd'.length = L3 at hQ1
          repeat (first
            | (refine wpT_move rfl ?_; simp only [Act.eval, Act.put, Array.getD_eq_getD_getElem?, List.getElem?_toArray, List.getElem?_cons_zero, List.getElem?_cons_succ, Option.getD_some, List.setIfInBounds_toArray, List.set_cons_zero, List.set_cons_succ])
            | (refine wpT_assign rfl ?_; simp only [Act.eval, Act.put, Array.getD_eq_getD_getElem?, List.getElem?_toArray, List.getElem?_cons_zero, List.getElem?_cons_succ, Option.getD_some, List.setIfInBounds_toArray, List.set_cons_zero, List.set_cons_succ])
            | (refine wpT_read (v := ?_) rfl ?_ ?_; rotate_left; (focus (intro w' hG; skip; go_simp; try (with_reducible rfl))); simp only [Act.put, List.setIfInBounds_toArray, List.set_cons_zero, List.set_cons_succ])
            | (refine wpT_skip rfl ?_; simp only [Act.put, List.setIfInBounds_toArray, List.set_cons_zero, List.set_cons_succ]))
          have V1 := HW.out.1.upd hu1 (by have := HB.out; omega)
          obtain ⟨⟨v0, v1, v2⟩, f0, f1, f2⟩ := V1.three
          have hu3 := upd_three w2 wr.heap.size (.slice a1 L1 c1) (.slice a2 L2 c2) (.slice a3 L3 c3)
          have H3 : Hid (DevAt (((w2.setCell ⟨wr.heap.size, 0, none⟩ (.slice a1 L1 c1)).setCell ⟨wr.heap.size, 1, none⟩ (.slice a2 L2 c2)).setCell ⟨wr.heap.size, 2, none⟩ (.slice a3 L3 c3)) (fun i => (i ≠ b ∧ i ≠ bl ∧ i ≠ bt) ∧ i ≠ B) b bl bt (j + 1) las' lat' hd' ∧ DocV (fun i => (i ≠ b ∧ i ≠ bl ∧ i ≠ bt) ∧ i ≠ B) (((w2.setCell ⟨wr.heap.size, 0, none⟩ (.slice a1 L1 c1)).setCell ⟨wr.heap.size, 1, none⟩ (.slice a2 L2 c2)).setCell ⟨wr.heap.size, 2, none⟩ (.slice a3 L3 c3)) (.slice a1 L1 c1) (.slice a2 L2 c2) (.slice a3 L3 c3) las' lat' hd' ∧ VarAt (((w2.setCell ⟨wr.heap.size, 0, none⟩ (.slice a1 L1 c1)).setCell ⟨wr.heap.size, 1, none⟩ (.slice a2 L2 c2)).setCell ⟨wr.heap.size, 2, none⟩ (.slice a3 L3 c3)) wr.heap.size [.slice a1 L1 c1, .slice a2 L2 c2, .slice a3 L3 c3] ∧ VarAt (((w2.setCell ⟨wr.heap.size, 0, none⟩ (.slice a1 L1 c1)).setCell ⟨wr.heap.size, 1, none⟩ (.slice a2 L2 c2)).setCell ⟨wr.heap.size, 2, none⟩ (.slice a3 L3 c3)) B [.slice al0 las.length cl0, .slice at0' lat.length ct0, .slice ah0 hd.length ch0] ∧ Grow w (((w2.setCell ⟨wr.heap.size, 0, none⟩ (.slice a1 L1 c1)).setCell ⟨wr.heap.size, 1, none⟩ (.slice a2 L2 c2)).setCell ⟨wr.heap.size, 2, none⟩ (.slice a3 L3 c3)) ∧ las'.length = K) := by
            have hB := HB.out
            have h0 := HS.out
            refine ⟨(hD1.upd hu3 (by omega) (by omega) (by omega) (fun i _ hi => hi.2)).back (by omega), (hQ1.upd hu3 (fun i _ hi => hi.2)).mono (fun i _ hi => hi.1), ((V1.set 0 _).set 1 _).set 2 _, ((h0.2.2.1.grow HW.out.2.1).upd hu1 (by omega)).upd hu3 (by omega), ?_, by rw [hl1]; exact h0.2.2.2.2⟩
            exact UpdS.new (UpdS.new (h0.2.2.2.1.trans HW.out.2.1) hu1 (fun i hi => by have := HBW.out; omega)) hu3 (fun i hi => by omega)
          refine wpT_store (w' := (((w2.setCell ⟨wr.heap.size, 0, none⟩ (.slice a1 L1 c1)).setCell ⟨wr.heap.size, 1, none⟩ (.slice a2 L2 c2)).setCell ⟨wr.heap.size, 2, none⟩ (.slice a3 L3 c3))) (by rfl) (by go_simp) (hu3.mono (fun i hi => by omega)) ?_
          simp only [Act.put, List.setIfInBounds_toArray, List.set_cons_zero, List.set_cons_succ]
          have HX : Hid (wr.heap.size ≠ B) := by have h1 := HB.out; show wr.heap.size ≠ B; omega
          generalize (((w2.setCell ⟨wr.heap.size, 0, none⟩ (.slice a1 L1 c1)).setCell ⟨wr.heap.size, 1, none⟩ (.slice a2 L2 c2)).setCell ⟨wr.heap.size, 2, none⟩ (.slice a3 L3 c3)) = w3 at H3 ⊢
          repeat (first
            | (refine wpT_move rfl ?_; simp only [Act.eval, Act.put, Array.getD_eq_getD_getElem?, List.getElem?_toArray, List.getElem?_cons_zero, List.getElem?_cons_succ, Option.getD_some, List.setIfInBounds_toArray, List.set_cons_zero, List.set_cons_succ])
            | (refine wpT_assign rfl ?_; simp only [Act.eval, Act.put, Array.getD_eq_getD_getElem?, List.getElem?_toArray, List.getElem?_cons_zero, List.getElem?_cons_succ, Option.getD_some, List.setIfInBounds_toArray, List.set_cons_zero, List.set_cons_succ])
            | (refine wpT_read (v := ?_) rfl ?_ ?_; rotate_left; (focus (intro w' hG; skip; go_simp; try (with_reducible rfl))); simp only [Act.put, List.setIfInBounds_toArray, List.set_cons_zero, List.set_cons_succ])
            | (refine wpT_skip rfl ?_; simp only [Act.put, List.setIfInBounds_toArray, List.set_cons_zero, List.set_cons_succ]))
          refine wpT_done ?_
          clear fx hdo hc1 hD1 hQ1 hu1 hl1 V1 v0 v1 v2 f0 f1 f2 hu3 HW
          obtain ⟨⟨x0, x1, x2⟩, -⟩ := H3.out.2.2.1.three
          obtain ⟨⟨y0, y1, y2⟩, e0, e1, e2⟩ := H3.out.2.2.2.1.three
          have H4 : Hid (DevAt (((w3.setCell ⟨B, 0, none⟩ (.slice a1 L1 c1)).setCell ⟨B, 1, none⟩ (.slice a2 L2 c2)).setCell ⟨B, 2, none⟩ (.slice a3 L3 c3)) (fun i => (i ≠ b ∧ i ≠ bl ∧ i ≠ bt) ∧ i ≠ B) b bl bt (j + 1) las' lat' hd' ∧ DocV (fun i => (i ≠ b ∧ i ≠ bl ∧ i ≠ bt) ∧ i ≠ B) (((w3.setCell ⟨B, 0, none⟩ (.slice a1 L1 c1)).setCell ⟨B, 1, none⟩ (.slice a2 L2 c2)).setCell ⟨B, 2, none⟩ (.slice a3 L3 c3)) (.slice a1 L1 c1) (.slice a2 L2 c2) (.slice a3 L3 c3) las' lat' hd' ∧ VarAt (((w3.setCell ⟨B, 0, none⟩ (.slice a1 L1 c1)).setCell ⟨B, 1, none⟩ (.slice a2 L2 c2)).setCell ⟨B, 2, none⟩ (.slice a3 L3 c3)) B [(.slice a1 L1 c1), (.slice a2 L2 c2), (.slice a3 L3 c3)] ∧ Grow w (((w3.setCell ⟨B, 0, none⟩ (.slice a1 L1 c1)).setCell ⟨B, 1, none⟩ (.slice a2 L2 c2)).setCell ⟨B, 2, none⟩ (.slice a3 L3 c3)) ∧ las'.length = K) := by
            have hu4 := upd_three w3 B (.slice a1 L1 c1) (.slice a2 L2 c2) (.slice a3 L3 c3)
            have hB := HB.out
            have h3 := H3.out
            exact ⟨h3.1.upd hu4 (by omega) (by omega) (by omega) (fun i _ hi => hi.2), h3.2.1.upd hu4 (fun i _ hi => hi.2), ((h3.2.2.2.1.set 0 _).set 1 _).set 2 _, UpdS.new h3.2.2.2.2.1 hu4 (fun i hi => by have := HBW.out; omega), h3.2.2.2.2.2⟩
          obtain ⟨w4, hw4⟩ : ∃ w4, (((w3.setCell ⟨B, 0, none⟩ (.slice a1 L1 c1)).setCell ⟨B, 1, none⟩ (.slice a2 L2 c2)).setCell ⟨B, 2, none⟩ (.slice a3 L3 c3)) = w4 := ⟨_, rfl⟩
          rw [hw4] at H4
          have H5 : Hid (∃ las lat hd lv tv hv, DevAt w4 (fun i => (i ≠ b ∧ i ≠ bl ∧ i ≠ bt) ∧ i ≠ B) b bl bt (j + 1) las lat hd ∧ DocV (fun i => (i ≠ b ∧ i ≠ bl ∧ i ≠ bt) ∧ i ≠ B) w4 lv tv hv las lat hd ∧ VarAt w4 B [lv, tv, hv] ∧ Grow w w4 ∧ las.length = K) := ⟨las', lat', hd', _, _, _, H4.out⟩
          clear H3 H4
          go_wp2
          go_roundg (10 - (j + 1))
          case measure => have := HJ.out; omega
          case rel => exact ⟨j + 1, rfl, by have := HJ.out; omega, by go_num, H5⟩
      · have hj16' : ¬ (j : Int) < 10 := by omega
        obtain ⟨s, HSJ⟩ : ∃ s : Nat, Hid (j ≤ s) := ⟨j, Nat.le_refl j⟩
        clear hk H3 hBe
        obtain ⟨hA, hC⟩ := HA.out
        obtain ⟨las, lat, hd, lv, tv, hv, hD, hQ, hVB, hg, hlK⟩ := HI.out
        obtain ⟨a1, c1, rfl, -⟩ := hQ.1.shape
        obtain ⟨a2, c2, rfl, -⟩ := hQ.2.1.shape
        obtain ⟨a3, c3, rfl⟩ := hQ.2.2.shape
        have HB : Hid (b < wr.heap.size ∧ bl < wr.heap.size ∧ bt < wr.heap.size ∧ B < wr.heap.size) := ⟨hD.lt.1, hD.lt.2.1, hD.lt.2.2.1, hVB.lt⟩
        have HS : Hid (DevAt wr (fun i => (i ≠ b ∧ i ≠ bl ∧ i ≠ bt) ∧ i ≠ B) b bl bt s las lat hd ∧ DocV (fun i => (i ≠ b ∧ i ≠ bl ∧ i ≠ bt) ∧ i ≠ B) wr (.slice a1 las.length c1) (.slice a2 lat.length c2) (.slice a3 hd.length c3) las lat hd ∧ VarAt wr B [.slice a1 las.length c1, .slice a2 lat.length c2, .slice a3 hd.length c3] ∧ Grow w wr ∧ las.length = 8) := ⟨hD.more HSJ.out, hQ, hVB, hg, by rw [hlK]; exact HK.out⟩
        have HO : Hid (DevOk las lat hd) := hD.ok
        have hbn := bnewL_any (.slice ak ks.length ck) ks _ wr (hks.grow hg) hkr
        clear hD hQ hVB hg hlK HI HSJ
        go_wp2_with fail
        refine (around_any from0 9 wr hfr (by omega) (by omega)).mono ?_
        rintro e w2 ⟨rfl, rfl⟩
        rw [hA]
        go_wp2_with fail
        refine (around_any to0 9 wr hto (by omega) (by omega)).mono ?_
        rintro e w2 ⟨rfl, rfl⟩
        rw [hC]
        go_wp2_with fail
        refine hbn.mono ?_
        rintro e w2 ⟨sb, sg, rfl, hS2, hg2, hsg, hsb⟩
        have hne : sb ≠ b ∧ sb ≠ bl ∧ sb ≠ bt ∧ sg ≠ bl ∧ sg ≠ bt := by have := HB.out; omega
        have HSB : Hid (wr.heap.size ≤ sb) := hsb
        have hcr := dcrash_any w2 (fun i => ((i ≠ b ∧ i ≠ bl ∧ i ≠ bt) ∧ i ≠ B) ∧ i ≠ sb) b bl bt s las lat hd ((HS.out.1.beside (x := sb) hsb).grow hg2) A C hAw hCw sb sg ks hS2 hne (fun hh => hh.2 rfl)
        have HQ2 : Hid (DocV (fun i => ((i ≠ b ∧ i ≠ bl ∧ i ≠ bt) ∧ i ≠ B) ∧ i < wr.heap.size) w2 (.slice a1 las.length c1) (.slice a2 lat.length c2) (.slice a3 hd.length c3) las lat hd ∧ VarAt w2 B [.slice a1 las.length c1, .slice a2 lat.length c2, .slice a3 hd.length c3] ∧ Grow w w2) := ⟨(HS.out.2.1.mono (fun i hi hh => ⟨hh, hi⟩)).grow hg2, HS.out.2.2.1.grow hg2, HS.out.2.2.2.1.trans hg2⟩
        have HE : Hid ((crashL ((las, lat), ks) (laterL lat A C)).1.1.length = 8 ∧ laterL (crashL ((las, lat), ks) (laterL lat A C)).1.2 A C = [] ∧ ∀ i : Nat, i < 8 → ¬ (A ≤ i ∧ i < C) → readL (crashL ((las, lat), ks) (laterL lat A C)).1.1 (crashL ((las, lat), ks) (laterL lat A C)).1.2 i = readL las lat i ∧ lastingL (crashL ((las, lat), ks) (laterL lat A C)).1.1 i = lastingL las i) := crash_apart HO.out.1 HS.out.2.2.2.2 ks A C
        clear hS2 hg2 hsg hsb hbn
        go_wp2_with fail
        refine hcr.mono ?_
        rintro e w3 ⟨n3, rfl, hD3, -, hu3⟩
        have HP : Hid (DevAt w3 (fun i => (i ≠ b ∧ i ≠ bl ∧ i ≠ bt) ∧ i ≠ B) b bl bt s (crashL ((las, lat), ks) (laterL lat A C)).1.1 (crashL ((las, lat), ks) (laterL lat A C)).1.2 hd ∧ DocV (fun i => (i ≠ b ∧ i ≠ bl ∧ i ≠ bt) ∧ i ≠ B) w3 (.slice a1 las.length c1) (.slice a2 lat.length c2) (.slice a3 hd.length c3) las lat hd ∧ VarAt w3 B [.slice a1 las.length c1, .slice a2 lat.length c2, .slice a3 hd.length c3] ∧ Grow w w3) := by
          have hB := HB.out
          have h1 := HSB.out
          have h2 := HBW.out
          have h3 := HS.out.2.2.2.1.size
          exact ⟨hD3.back (by omega), (HQ2.out.1.upd hu3 (fun i _ hi => by omega)).mono (fun i _ hi => hi.1), HQ2.out.2.1.upd hu3 (by omega), UpdS.new HQ2.out.2.2 hu3 (fun i hi => by omega)⟩
        generalize (crashL ((las, lat), ks) (laterL lat A C)).1.1 = las' at HP HE
        generalize (crashL ((las, lat), ks) (laterL lat A C)).1.2 = lat' at HP HE
        clear hD3 hu3 hcr HQ2 HS HSB
        go_wp2
        go_loopg [20] 8 (fun k i wr => ∃ j : Nat, k = 8 - j ∧ j ≤ 8 ∧ i = .int .i64 j ∧ Hid (DevAt wr (fun i => (i ≠ b ∧ i ≠ bl ∧ i ≠ bt) ∧ i ≠ B) b bl bt s las' lat' hd ∧ DocV (fun i => (i ≠ b ∧ i ≠ bl ∧ i ≠ bt) ∧ i ≠ B) wr (.slice a1 las.length c1) (.slice a2 lat.length c2) (.slice a3 hd.length c3) las lat hd ∧ VarAt wr B [.slice a1 las.length c1, .slice a2 lat.length c2, .slice a3 hd.length c3] ∧ Grow w wr))
        case atStart => exact ⟨0, rfl, Nat.zero_le _, rfl, HP.out⟩
        case round =>
          obtain ⟨j, hk, hj, rfl, HI⟩ := hrel
          obtain ⟨⟨x0, x1, x2⟩, -⟩ := HI.out.2.2.1.three
          by_cases hj8 : j < 8
          · have hj8' : (j : Int) < 8 := by omega
            have HJ : Hid (j < 8 ∧ gk = 8 - j) := ⟨hj8, hk⟩
            clear hk
            by_cases h1 : (A : Int) ≤ (j : Int)
            · by_cases h2 : (j : Int) < (C : Int)
              · go_wp2
                go_roundg (8 - (j + 1))
                case measure => have := HJ.out; omega
                case rel => exact ⟨j + 1, rfl, by have := HJ.out; omega, by go_num, HI⟩
              · have hnot : ¬ (A ≤ j ∧ j < C) := by omega
                have hwk : (Lit.int .i64 (j : Int)).wf = true := wfI (by omega)
                have HR := HE.out.2.2 j (by have := HJ.out; omega) hnot
                have r1 := fun w' (g : Grow wr w') => dread_any w' (fun i => (i ≠ b ∧ i ≠ bl ∧ i ≠ bt) ∧ i ≠ B) b bl bt s las' lat' hd (HI.out.1.grow g) j hwk
                have r2 := fun w' (g : Grow wr w') => qread_any (fun i => (i ≠ b ∧ i ≠ bl ∧ i ≠ bt) ∧ i ≠ B) _ _ _ las lat hd w' (HI.out.2.1.grow g) HO.out j hwk
                have r3 := fun w' (g : Grow wr w') => dlasting_any w' (fun i => (i ≠ b ∧ i ≠ bl ∧ i ≠ bt) ∧ i ≠ B) b bl bt s las' lat' hd (HI.out.1.grow g) j hwk
                have r4 := fun w' (g : Grow wr w') => qlasting_any (fun i => (i ≠ b ∧ i ≠ bl ∧ i ≠ bt) ∧ i ≠ B) _ _ _ las lat hd w' (HI.out.2.1.grow g) HO.out j hwk
                rw [HR.1] at r1
                rw [HR.2] at r3
                generalize readL las lat j = T at r1 r2
                generalize lastingL las j = U at r3 r4
                obtain ⟨T1, T2⟩ := T
                obtain ⟨U1, U2⟩ := U
                clear HR hnot
                go_wp2_with fail
                refine (r1 wr (Grow.refl _)).mono ?_
                rintro e w1 ⟨v1, rfl, ho1, hb1⟩
                have G1 : Hid (Grow wr w1 ∧ VarAt w1 B [.slice a1 las.length c1, .slice a2 lat.length c2, .slice a3 hd.length c3] ∧ Rd .u8 w1.heap.size w1 v1 T1) := ⟨hb1, HI.out.2.2.1.grow hb1, ho1.rd⟩
                obtain ⟨⟨y0, y1, y2⟩, -⟩ := G1.out.2.1.three
                clear ho1 hb1 x0 x1 x2
                go_wp2_with fail
                refine (r2 w1 G1.out.1).mono ?_
                rintro e w2 ⟨v2, rfl, ho2, hb2⟩
                have G2 : Hid (Grow wr w2 ∧ VarAt w2 B [.slice a1 las.length c1, .slice a2 lat.length c2, .slice a3 hd.length c3] ∧ Rd .u8 w2.heap.size w2 v1 T1 ∧ Rd .u8 w2.heap.size w2 v2 T1) := ⟨G1.out.1.trans hb2, G1.out.2.1.grow hb2, (Rd.below G1.out.2.2 hb2).size, ho2⟩
                clear ho2 hb2 y0 y1 y2 G1
                go_wp2_with fail
                refine (r3 w2 G2.out.1).mono ?_
                rintro e w3 ⟨v3, rfl, ho3, hb3⟩
                have G3 : Hid (Grow wr w3 ∧ VarAt w3 B [.slice a1 las.length c1, .slice a2 lat.length c2, .slice a3 hd.length c3] ∧ Rd .u8 w3.heap.size w3 v1 T1 ∧ Rd .u8 w3.heap.size w3 v2 T1 ∧ Rd .u8 w3.heap.size w3 v3 U1) := ⟨G2.out.1.trans hb3, G2.out.2.1.grow hb3, (Rd.below G2.out.2.2.1 hb3).size, (Rd.below G2.out.2.2.2 hb3).size, ho3.rd⟩
                obtain ⟨⟨y0, y1, y2⟩, -⟩ := G3.out.2.1.three
                clear ho3 hb3 G2
                go_wp2_with fail
                refine (r4 w3 G3.out.1).mono ?_
                rintro e w4 ⟨v4, rfl, ho4, hb4⟩
                have G4 : Hid (DevAt w4 (fun i => (i ≠ b ∧ i ≠ bl ∧ i ≠ bt) ∧ i ≠ B) b bl bt s las' lat' hd ∧ DocV (fun i => (i ≠ b ∧ i ≠ bl ∧ i ≠ bt) ∧ i ≠ B) w4 (.slice a1 las.length c1) (.slice a2 lat.length c2) (.slice a3 hd.length c3) las lat hd ∧ VarAt w4 B [.slice a1 las.length c1, .slice a2 lat.length c2, .slice a3 hd.length c3] ∧ Grow w w4) := ⟨(HI.out.1.grow G3.out.1).grow hb4, (HI.out.2.1.grow G3.out.1).grow hb4, G3.out.2.1.grow hb4, (HI.out.2.2.2.trans G3.out.1).trans hb4⟩
                have s1 := (Rd.below G3.out.2.2.1 hb4).string (P := Try.prog) 29 9 5 Try.underlying29 Try.underlying5 Try.underlying9
                have s2 := (Rd.below G3.out.2.2.2.1 hb4).string (P := Try.prog) 29 9 5 Try.underlying29 Try.underlying5 Try.underlying9
                have s3 := (Rd.below G3.out.2.2.2.2 hb4).string (P := Try.prog) 29 9 5 Try.underlying29 Try.underlying5 Try.underlying9
                have s4 := ho4.string (P := Try.prog) 29 9 5 Try.underlying29 Try.underlying5 Try.underlying9
                clear ho4 hb4 y0 y1 y2 G3 r1 r2 r3 r4
                go_wp2
                go_roundg (8 - (j + 1))
                case measure => have := HJ.out; omega
                case rel => exact ⟨j + 1, rfl, by have := HJ.out; omega, by go_num, G4⟩
            · have hnot : ¬ (A ≤ j ∧ j < C) := by omega
              have hwk : (Lit.int .i64 (j : Int)).wf = true := wfI (by omega)
              have HR := HE.out.2.2 j (by have := HJ.out; omega) hnot
              have r1 := fun w' (g : Grow wr w') => dread_any w' (fun i => (i ≠ b ∧ i ≠ bl ∧ i ≠ bt) ∧ i ≠ B) b bl bt s las' lat' hd (HI.out.1.grow g) j hwk
              have r2 := fun w' (g : Grow wr w') => qread_any (fun i => (i ≠ b ∧ i ≠ bl ∧ i ≠ bt) ∧ i ≠ B) _ _ _ las lat hd w' (HI.out.2.1.grow g) HO.out j hwk
              have r3 := fun w' (g : Grow wr w') => dlasting_any w' (fun i => (i ≠ b ∧ i ≠ bl ∧ i ≠ bt) ∧ i ≠ B) b bl bt s las' lat' hd (HI.out.1.grow g) j hwk
              have r4 := fun w' (g : Grow wr w') => qlasting_any (fun i => (i ≠ b ∧ i ≠ bl ∧ i ≠ bt) ∧ i ≠ B) _ _ _ las lat hd w' (HI.out.2.1.grow g) HO.out j hwk
              rw [HR.1] at r1
              rw [HR.2] at r3
              generalize readL las lat j = T at r1 r2
              generalize lastingL las j = U at r3 r4
              obtain ⟨T1, T2⟩ := T
              obtain ⟨U1, U2⟩ := U
              clear HR hnot
              go_wp2_with fail
              refine (r1 wr (Grow.refl _)).mono ?_
              rintro e w1 ⟨v1, rfl, ho1, hb1⟩
              have G1 : Hid (Grow wr w1 ∧ VarAt w1 B [.slice a1 las.length c1, .slice a2 lat.length c2, .slice a3 hd.length c3] ∧ Rd .u8 w1.heap.size w1 v1 T1) := ⟨hb1, HI.out.2.2.1.grow hb1, ho1.rd⟩
              obtain ⟨⟨y0, y1, y2⟩, -⟩ := G1.out.2.1.three
              clear ho1 hb1 x0 x1 x2
              go_wp2_with fail
              refine (r2 w1 G1.out.1).mono ?_
              rintro e w2 ⟨v2, rfl, ho2, hb2⟩
              have G2 : Hid (Grow wr w2 ∧ VarAt w2 B [.slice a1 las.length c1, .slice a2 lat.length c2, .slice a3 hd.length c3] ∧ Rd .u8 w2.heap.size w2 v1 T1 ∧ Rd .u8 w2.heap.size w2 v2 T1) := ⟨G1.out.1.trans hb2, G1.out.2.1.grow hb2, (Rd.below G1.out.2.2 hb2).size, ho2⟩
              clear ho2 hb2 y0 y1 y2 G1
              go_wp2_with fail
              refine (r3 w2 G2.out.1).mono ?_
              rintro e w3 ⟨v3, rfl, ho3, hb3⟩
              have G3 : Hid (Grow wr w3 ∧ VarAt w3 B [.slice a1 las.length c1, .slice a2 lat.length c2, .slice a3 hd.length c3] ∧ Rd .u8 w3.heap.size w3 v1 T1 ∧ Rd .u8 w3.heap.size w3 v2 T1 ∧ Rd .u8 w3.heap.size w3 v3 U1) := ⟨G2.out.1.trans hb3, G2.out.2.1.grow hb3, (Rd.below G2.out.2.2.1 hb3).size, (Rd.below G2.out.2.2.2 hb3).size, ho3.rd⟩
              obtain ⟨⟨y0, y1, y2⟩, -⟩ := G3.out.2.1.three
              clear ho3 hb3 G2
              go_wp2_with fail
              refine (r4 w3 G3.out.1).mono ?_
              rintro e w4 ⟨v4, rfl, ho4, hb4⟩
              have G4 : Hid (DevAt w4 (fun i => (i ≠ b ∧ i ≠ bl ∧ i ≠ bt) ∧ i ≠ B) b bl bt s las' lat' hd ∧ DocV (fun i => (i ≠ b ∧ i ≠ bl ∧ i ≠ bt) ∧ i ≠ B) w4 (.slice a1 las.length c1) (.slice a2 lat.length c2) (.slice a3 hd.length c3) las lat hd ∧ VarAt w4 B [.slice a1 las.length c1, .slice a2 lat.length c2, .slice a3 hd.length c3] ∧ Grow w w4) := ⟨(HI.out.1.grow G3.out.1).grow hb4, (HI.out.2.1.grow G3.out.1).grow hb4, G3.out.2.1.grow hb4, (HI.out.2.2.2.trans G3.out.1).trans hb4⟩
              have s1 := (Rd.below G3.out.2.2.1 hb4).string (P := Try.prog) 29 9 5 Try.underlying29 Try.underlying5 Try.underlying9
              have s2 := (Rd.below G3.out.2.2.2.1 hb4).string (P := Try.prog) 29 9 5 Try.underlying29 Try.underlying5 Try.underlying9
              have s3 := (Rd.below G3.out.2.2.2.2 hb4).string (P := Try.prog) 29 9 5 Try.underlying29 Try.underlying5 Try.underlying9
              have s4 := ho4.string (P := Try.prog) 29 9 5 Try.underlying29 Try.underlying5 Try.underlying9
              clear ho4 hb4 y0 y1 y2 G3 r1 r2 r3 r4
              go_wp2
              go_roundg (8 - (j + 1))
              case measure => have := HJ.out; omega
              case rel => exact ⟨j + 1, rfl, by have := HJ.out; omega, by go_num, G4⟩
          · obtain rfl : j = 8 := by omega
            have hlt := dlater_any wr _ b bl bt s las' lat' hd HI.out.1 A C hAw hCw
            rw [HE.out.2.1] at hlt
            clear hk hj8
            go_wp2_with fail
            refine hlt.mono ?_
            rintro e w6 ⟨v6, rfl, ho6, hg6⟩
            obtain ⟨a6, c6, rfl⟩ := ho6.shape
            simp only [List.length_nil]
            have HG6 : Hid (Grow w w6) := HI.out.2.2.2.trans hg6
            clear ho6 hg6 hlt
            go_wp2_with fail
            refine (dlives_any w6).mono ?_
            rintro e w7 ⟨rfl, hg7⟩
            go_wp2
            go_ret
            exact ⟨rfl, HG6.out.trans hg7⟩
    · have hjo' : ¬ (j : Int) < (os.length : Int) := by omega
      obtain ⟨s, HSJ⟩ : ∃ s : Nat, Hid (j ≤ s) := ⟨j, Nat.le_refl j⟩
      clear hk H3 hBe
      obtain ⟨hA, hC⟩ := HA.out
      obtain ⟨las, lat, hd, lv, tv, hv, hD, hQ, hVB, hg, hlK⟩ := HI.out
      obtain ⟨a1, c1, rfl, -⟩ := hQ.1.shape
      obtain ⟨a2, c2, rfl, -⟩ := hQ.2.1.shape
      obtain ⟨a3, c3, rfl⟩ := hQ.2.2.shape
      have HB : Hid (b < wr.heap.size ∧ bl < wr.heap.size ∧ bt < wr.heap.size ∧ B < wr.heap.size) := ⟨hD.lt.1, hD.lt.2.1, hD.lt.2.2.1, hVB.lt⟩
      have HS : Hid (DevAt wr (fun i => (i ≠ b ∧ i ≠ bl ∧ i ≠ bt) ∧ i ≠ B) b bl bt s las lat hd ∧ DocV (fun i => (i ≠ b ∧ i ≠ bl ∧ i ≠ bt) ∧ i ≠ B) wr (.slice a1 las.length c1) (.slice a2 lat.length c2) (.slice a3 hd.length c3) las lat hd ∧ VarAt wr B [.slice a1 las.length c1, .slice a2 lat.length c2, .slice a3 hd.length c3] ∧ Grow w wr ∧ las.length = 8) := ⟨hD.more HSJ.out, hQ, hVB, hg, by rw [hlK]; exact HK.out⟩
      have HO : Hid (DevOk las lat hd) := hD.ok
      have hbn := bnewL_any (.slice ak ks.length ck) ks _ wr (hks.grow hg) hkr
      clear hD hQ hVB hg hlK HI HSJ
      go_wp2_with fail
      refine (around_any from0 9 wr hfr (by omega) (by omega)).mono ?_
      rintro e w2 ⟨rfl, rfl⟩
      rw [hA]
      go_wp2_with fail
      refine (around_any to0 9 wr hto (by omega) (by omega)).mono ?_
      rintro e w2 ⟨rfl, rfl⟩
      rw [hC]
      go_wp2_with fail
      refine hbn.mono ?_
      rintro e w2 ⟨sb, sg, rfl, hS2, hg2, hsg, hsb⟩
      have hne : sb ≠ b ∧ sb ≠ bl ∧ sb ≠ bt ∧ sg ≠ bl ∧ sg ≠ bt := by have := HB.out; omega
      have HSB : Hid (wr.heap.size ≤ sb) := hsb
      have hcr := dcrash_any w2 (fun i => ((i ≠ b ∧ i ≠ bl ∧ i ≠ bt) ∧ i ≠ B) ∧ i ≠ sb) b bl bt s las lat hd ((HS.out.1.beside (x := sb) hsb).grow hg2) A C hAw hCw sb sg ks hS2 hne (fun hh => hh.2 rfl)
      have HQ2 : Hid (DocV (fun i => ((i ≠ b ∧ i ≠ bl ∧ i ≠ bt) ∧ i ≠ B) ∧ i < wr.heap.size) w2 (.slice a1 las.length c1) (.slice a2 lat.length c2) (.slice a3 hd.length c3) las lat hd ∧ VarAt w2 B [.slice a1 las.length c1, .slice a2 lat.length c2, .slice a3 hd.length c3] ∧ Grow w w2) := ⟨(HS.out.2.1.mono (fun i hi hh => ⟨hh, hi⟩)).grow hg2, HS.out.2.2.1.grow hg2, HS.out.2.2.2.1.trans hg2⟩
      have HE : Hid ((crashL ((las, lat), ks) (laterL lat A C)).1.1.length = 8 ∧ laterL (crashL ((las, lat), ks) (laterL lat A C)).1.2 A C = [] ∧ ∀ i : Nat, i < 8 → ¬ (A ≤ i ∧ i < C) → readL (crashL ((las, lat), ks) (laterL lat A C)).1.1 (crashL ((las, lat), ks) (laterL lat A C)).1.2 i = readL las lat i ∧ lastingL (crashL ((las, lat), ks) (laterL lat A C)).1.1 i = lastingL las i) := crash_apart HO.out.1 HS.out.2.2.2.2 ks A C
      clear hS2 hg2 hsg hsb hbn
      go_wp2_with fail
      refine hcr.mono ?_
      rintro e w3 ⟨n3, rfl, hD3, -, hu3⟩
      have HP : Hid (DevAt w3 (fun i => (i ≠ b ∧ i ≠ bl ∧ i ≠ bt) ∧ i ≠ B) b bl bt s (crashL ((las, lat), ks) (laterL lat A C)).1.1 (crashL ((las, lat), ks) (laterL lat A C)).1.2 hd ∧ DocV (fun i => (i ≠ b ∧ i ≠ bl ∧ i ≠ bt) ∧ i ≠ B) w3 (.slice a1 las.length c1) (.slice a2 lat.length c2) (.slice a3 hd.length c3) las lat hd ∧ VarAt w3 B [.slice a1 las.length c1, .slice a2 lat.length c2, .slice a3 hd.length c3] ∧ Grow w w3) := by
        have hB := HB.out
        have h1 := HSB.out
        have h2 := HBW.out
        have h3 := HS.out.2.2.2.1.size
        exact ⟨hD3.back (by omega), (HQ2.out.1.upd hu3 (fun i _ hi => by omega)).mono (fun i _ hi => hi.1), HQ2.out.2.1.upd hu3 (by omega), UpdS.new HQ2.out.2.2 hu3 (fun i hi => by omega)⟩
      generalize (crashL ((las, lat), ks) (laterL lat A C)).1.1 = las' at HP HE
      generalize (crashL ((las, lat), ks) (laterL lat A C)).1.2 = lat' at HP HE
      clear hD3 hu3 hcr HQ2 HS HSB
      go_wp2
      go_loopg [20] 8 (fun k i wr => ∃ j : Nat, k = 8 - j ∧ j ≤ 8 ∧ i = .int .i64 j ∧ Hid (DevAt wr (fun i => (i ≠ b ∧ i ≠ bl ∧ i ≠ bt) ∧ i ≠ B) b bl bt s las' lat' hd ∧ DocV (fun i => (i ≠ b ∧ i ≠ bl ∧ i ≠ bt) ∧ i ≠ B) wr (.slice a1 las.length c1) (.slice a2 lat.length c2) (.slice a3 hd.length c3) las lat hd ∧ VarAt wr B [.slice a1 las.length c1, .slice a2 lat.length c2, .slice a3 hd.length c3] ∧ Grow w wr))
      case atStart => exact ⟨0, rfl, Nat.zero_le _, rfl, HP.out⟩
      case round =>
        obtain ⟨j, hk, hj, rfl, HI⟩ := hrel
        obtain ⟨⟨x0, x1, x2⟩, -⟩ := HI.out.2.2.1.three
        by_cases hj8 : j < 8
        · have hj8' : (j : Int) < 8 := by omega
          have HJ : Hid (j < 8 ∧ gk = 8 - j) := ⟨hj8, hk⟩
          clear hk
          by_cases h1 : (A : Int) ≤ (j : Int)
          · by_cases h2 : (j : Int) < (C : Int)
            · go_wp2
              go_roundg (8 - (j + 1))
              case measure => have := HJ.out; omega
              case rel => exact ⟨j + 1, rfl, by have := HJ.out; omega, by go_num, HI⟩
            · have hnot : ¬ (A ≤ j ∧ j < C) := by omega
              have hwk : (Lit.int .i64 (j : Int)).wf = true := wfI (by omega)
              have HR := HE.out.2.2 j (by have := HJ.out; omega) hnot
              have r1 := fun w' (g : Grow wr w') => dread_any w' (fun i => (i ≠ b ∧ i ≠ bl ∧ i ≠ bt) ∧ i ≠ B) b bl bt s las' lat' hd (HI.out.1.grow g) j hwk
              have r2 := fun w' (g : Grow wr w') => qread_any (fun i => (i ≠ b ∧ i ≠ bl ∧ i ≠ bt) ∧ i ≠ B) _ _ _ las lat hd w' (HI.out.2.1.grow g) HO.out j hwk
              have r3 := fun w' (g : Grow wr w') => dlasting_any w' (fun i => (i ≠ b ∧ i ≠ bl ∧ i ≠ bt) ∧ i ≠ B) b bl bt s las' lat' hd (HI.out.1.grow g) j hwk
              have r4 := fun w' (g : Grow wr w') => qlasting_any (fun i => (i ≠ b ∧ i ≠ bl ∧ i ≠ bt) ∧ i ≠ B) _ _ _ las lat hd w' (HI.out.2.1.grow g) HO.out j hwk
              rw [HR.1] at r1
              rw [HR.2] at r3
              generalize readL las lat j = T at r1 r2
              generalize lastingL las j = U at r3 r4
              obtain ⟨T1, T2⟩ := T
              obtain ⟨U1, U2⟩ := U
              clear HR hnot
              go_wp2_with fail
              refine (r1 wr (Grow.refl _)).mono ?_
              rintro e w1 ⟨v1, rfl, ho1, hb1⟩
              have G1 : Hid (Grow wr w1 ∧ VarAt w1 B [.slice a1 las.length c1, .slice a2 lat.length c2, .slice a3 hd.length c3] ∧ Rd .u8 w1.heap.size w1 v1 T1) := ⟨hb1, HI.out.2.2.1.grow hb1, ho1.rd⟩
              obtain ⟨⟨y0, y1, y2⟩, -⟩ := G1.out.2.1.three
              clear ho1 hb1 x0 x1 x2
              go_wp2_with fail
              refine (r2 w1 G1.out.1).mono ?_
              rintro e w2 ⟨v2, rfl, ho2, hb2⟩
              have G2 : Hid (Grow wr w2 ∧ VarAt w2 B [.slice a1 las.length c1, .slice a2 lat.length c2, .slice a3 hd.length c3] ∧ Rd .u8 w2.heap.size w2 v1 T1 ∧ Rd .u8 w2.heap.size w2 v2 T1) := ⟨G1.out.1.trans hb2, G1.out.2.1.grow hb2, (Rd.below G1.out.2.2 hb2).size, ho2⟩
              clear ho2 hb2 y0 y1 y2 G1
              go_wp2_with fail
              refine (r3 w2 G2.out.1).mono ?_
              rintro e w3 ⟨v3, rfl, ho3, hb3⟩
              have G3 : Hid (Grow wr w3 ∧ VarAt w3 B [.slice a1 las.length c1, .slice a2 lat.length c2, .slice a3 hd.length c3] ∧ Rd .u8 w3.heap.size w3 v1 T1 ∧ Rd .u8 w3.heap.size w3 v2 T1 ∧ Rd .u8 w3.heap.size w3 v3 U1) := ⟨G2.out.1.trans hb3, G2.out.2.1.grow hb3, (Rd.below G2.out.2.2.1 hb3).size, (Rd.below G2.out.2.2.2 hb3).size, ho3.rd⟩
              obtain ⟨⟨y0, y1, y2⟩, -⟩ := G3.out.2.1.three
              clear ho3 hb3 G2
              go_wp2_with fail
              refine (r4 w3 G3.out.1).mono ?_
              rintro e w4 ⟨v4, rfl, ho4, hb4⟩
              have G4 : Hid (DevAt w4 (fun i => (i ≠ b ∧ i ≠ bl ∧ i ≠ bt) ∧ i ≠ B) b bl bt s las' lat' hd ∧ DocV (fun i => (i ≠ b ∧ i ≠ bl ∧ i ≠ bt) ∧ i ≠ B) w4 (.slice a1 las.length c1) (.slice a2 lat.length c2) (.slice a3 hd.length c3) las lat hd ∧ VarAt w4 B [.slice a1 las.length c1, .slice a2 lat.length c2, .slice a3 hd.length c3] ∧ Grow w w4) := ⟨(HI.out.1.grow G3.out.1).grow hb4, (HI.out.2.1.grow G3.out.1).grow hb4, G3.out.2.1.grow hb4, (HI.out.2.2.2.trans G3.out.1).trans hb4⟩
              have s1 := (Rd.below G3.out.2.2.1 hb4).string (P := Try.prog) 29 9 5 Try.underlying29 Try.underlying5 Try.underlying9
              have s2 := (Rd.below G3.out.2.2.2.1 hb4).string (P := Try.prog) 29 9 5 Try.underlying29 Try.underlying5 Try.underlying9
              have s3 := (Rd.below G3.out.2.2.2.2 hb4).string (P := Try.prog) 29 9 5 Try.underlying29 Try.underlying5 Try.underlying9
              have s4 := ho4.string (P := Try.prog) 29 9 5 Try.underlying29 Try.underlying5 Try.underlying9
              clear ho4 hb4 y0 y1 y2 G3 r1 r2 r3 r4
              go_wp2
              go_roundg (8 - (j + 1))
              case measure => have := HJ.out; omega
              case rel => exact ⟨j + 1, rfl, by have := HJ.out; omega, by go_num, G4⟩
          · have hnot : ¬ (A ≤ j ∧ j < C) := by omega
            have hwk : (Lit.int .i64 (j : Int)).wf = true := wfI (by omega)
            have HR := HE.out.2.2 j (by have := HJ.out; omega) hnot
            have r1 := fun w' (g : Grow wr w') => dread_any w' (fun i => (i ≠ b ∧ i ≠ bl ∧ i ≠ bt) ∧ i ≠ B) b bl bt s las' lat' hd (HI.out.1.grow g) j hwk
            have r2 := fun w' (g : Grow wr w') => qread_any (fun i => (i ≠ b ∧ i ≠ bl ∧ i ≠ bt) ∧ i ≠ B) _ _ _ las lat hd w' (HI.out.2.1.grow g) HO.out j hwk
            have r3 := fun w' (g : Grow wr w') => dlasting_any w' (fun i => (i ≠ b ∧ i ≠ bl ∧ i ≠ bt) ∧ i ≠ B) b bl bt s las' lat' hd (HI.out.1.grow g) j hwk
            have r4 := fun w' (g : Grow wr w') => qlasting_any (fun i => (i ≠ b ∧ i ≠ bl ∧ i ≠ bt) ∧ i ≠ B) _ _ _ las lat hd w' (HI.out.2.1.grow g) HO.out j hwk
            rw [HR.1] at r1
            rw [HR.2] at r3
            generalize readL las lat j = T at r1 r2
            generalize lastingL las j = U at r3 r4
            obtain ⟨T1, T2⟩ := T
            obtain ⟨U1, U2⟩ := U
            clear HR hnot
            go_wp2_with fail
            refine (r1 wr (Grow.refl _)).mono ?_
            rintro e w1 ⟨v1, rfl, ho1, hb1⟩
            have G1 : Hid (Grow wr w1 ∧ VarAt w1 B [.slice a1 las.length c1, .slice a2 lat.length c2, .slice a3 hd.length c3] ∧ Rd .u8 w1.heap.size w1 v1 T1) := ⟨hb1, HI.out.2.2.1.grow hb1, ho1.rd⟩
            obtain ⟨⟨y0, y1, y2⟩, -⟩ := G1.out.2.1.three
            clear ho1 hb1 x0 x1 x2
            go_wp2_with fail
            refine (r2 w1 G1.out.1).mono ?_
            rintro e w2 ⟨v2, rfl, ho2, hb2⟩
            have G2 : Hid (Grow wr w2 ∧ VarAt w2 B [.slice a1 las.length c1, .slice a2 lat.length c2, .slice a3 hd.length c3] ∧ Rd .u8 w2.heap.size w2 v1 T1 ∧ Rd .u8 w2.heap.size w2 v2 T1) := ⟨G1.out.1.trans hb2, G1.out.2.1.grow hb2, (Rd.below G1.out.2.2 hb2).size, ho2⟩
            clear ho2 hb2 y0 y1 y2 G1
            go_wp2_with fail
            refine (r3 w2 G2.out.1).mono ?_
            rintro e w3 ⟨v3, rfl, ho3, hb3⟩
            have G3 : Hid (Grow wr w3 ∧ VarAt w3 B [.slice a1 las.length c1, .slice a2 lat.length c2, .slice a3 hd.length c3] ∧ Rd .u8 w3.heap.size w3 v1 T1 ∧ Rd .u8 w3.heap.size w3 v2 T1 ∧ Rd .u8 w3.heap.size w3 v3 U1) := ⟨G2.out.1.trans hb3, G2.out.2.1.grow hb3, (Rd.below G2.out.2.2.1 hb3).size, (Rd.below G2.out.2.2.2 hb3).size, ho3.rd⟩
            obtain ⟨⟨y0, y1, y2⟩, -⟩ := G3.out.2.1.three
            clear ho3 hb3 G2
            go_wp2_with fail
            refine (r4 w3 G3.out.1).mono ?_
            rintro e w4 ⟨v4, rfl, ho4, hb4⟩
            have G4 : Hid (DevAt w4 (fun i => (i ≠ b ∧ i ≠ bl ∧ i ≠ bt) ∧ i ≠ B) b bl bt s las' lat' hd ∧ DocV (fun i => (i ≠ b ∧ i ≠ bl ∧ i ≠ bt) ∧ i ≠ B) w4 (.slice a1 las.length c1) (.slice a2 lat.length c2) (.slice a3 hd.length c3) las lat hd ∧ VarAt w4 B [.slice a1 las.length c1, .slice a2 lat.length c2, .slice a3 hd.length c3] ∧ Grow w w4) := ⟨(HI.out.1.grow G3.out.1).grow hb4, (HI.out.2.1.grow G3.out.1).grow hb4, G3.out.2.1.grow hb4, (HI.out.2.2.2.trans G3.out.1).trans hb4⟩
            have s1 := (Rd.below G3.out.2.2.1 hb4).string (P := Try.prog) 29 9 5 Try.underlying29 Try.underlying5 Try.underlying9
            have s2 := (Rd.below G3.out.2.2.2.1 hb4).string (P := Try.prog) 29 9 5 Try.underlying29 Try.underlying5 Try.underlying9
            have s3 := (Rd.below G3.out.2.2.2.2 hb4).string (P := Try.prog) 29 9 5 Try.underlying29 Try.underlying5 Try.underlying9
            have s4 := ho4.string (P := Try.prog) 29 9 5 Try.underlying29 Try.underlying5 Try.underlying9
            clear ho4 hb4 y0 y1 y2 G3 r1 r2 r3 r4
            go_wp2
            go_roundg (8 - (j + 1))
            case measure => have := HJ.out; omega
            case rel => exact ⟨j + 1, rfl, by have := HJ.out; omega, by go_num, G4⟩
        · obtain rfl : j = 8 := by omega
          have hlt := dlater_any wr _ b bl bt s las' lat' hd HI.out.1 A C hAw hCw
          rw [HE.out.2.1] at hlt
          clear hk hj8
          go_wp2_with fail
          refine hlt.mono ?_
          rintro e w6 ⟨v6, rfl, ho6, hg6⟩
          obtain ⟨a6, c6, rfl⟩ := ho6.shape
          simp only [List.length_nil]
          have HG6 : Hid (Grow w w6) := HI.out.2.2.2.trans hg6
          clear ho6 hg6 hlt
          go_wp2_with fail
          refine (dlives_any w6).mono ?_
          rintro e w7 ⟨rfl, hg7⟩
          go_wp2
          go_ret
          exact ⟨rfl, HG6.out.trans hg7⟩

end Go.Proofs.Ytpkoiogdkaklfaa
