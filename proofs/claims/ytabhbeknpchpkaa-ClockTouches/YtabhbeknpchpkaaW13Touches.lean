/-
  The walk of ClockTouches. Conditions: each theorem's own.
-/
import Derived.Test.YtabhbeknpchpkaaClkLive
import Derived.Deep.LoopGhost
import Derived.Deep.CutRange
namespace Go.Proofs.Ytabhbeknpchpkaa
open Go.RowKit
set_option linter.unusedVariables false
set_option linter.unusedSimpArgs false


/-- what a turn leaves of flags: nothing but Ref is changed, and that of none that is pinned -/
theorem trn_left {L : List Fl} {h : Nat} (hh : h < L.length) {i : Nat} (hi : i < L.length) : ∃ r, (trn L h).2.getD i Fl.zero = ⟨(L.getD i Fl.zero).u, (L.getD i Fl.zero).d, r, (L.getD i Fl.zero).p⟩ ∧ (r = true → (L.getD i Fl.zero).r = true) ∧ (0 < (L.getD i Fl.zero).p → r = (L.getD i Fl.zero).r) := by
  rcases trn_each hh hi with e | e
  · exact ⟨(L.getD i Fl.zero).r, e, id, fun _ => rfl⟩
  · refine ⟨(L.getD i Fl.zero).pass.r, ?_, Fl.pass_r, fun hp => by rw [Fl.pass_pinned hp]⟩
    rw [e]
    conv => lhs; rw [show (L.getD i Fl.zero).pass = ⟨(L.getD i Fl.zero).pass.u, (L.getD i Fl.zero).pass.d, (L.getD i Fl.zero).pass.r, (L.getD i Fl.zero).pass.p⟩ from rfl]
    rw [Fl.pass_u, Fl.pass_d, Fl.pass_p]

set_option maxRecDepth 8000 in
set_option maxHeartbeats 4000000 in
theorem clockTouches_walk {p : Nat → Prop} (v : Value) (zs : List Fl) (hand : Int) (w : World) (hv : RdF p w v zs) (hwf : ∀ x ∈ zs, (Lit.int .i64 x.p).wf = true) (hb : zs.length * 16 ≤ 140737488355328) (hh : (Lit.int .i64 hand).wf = true) :
    Calls Try.prog 6 #[v, .int .i64 hand] w fun e w' => e = .returned (.bool true) ∧ Below w.heap.size w w' := by
  have has := as_any v zs w hv hb
  clear hv hb
  go_enter Try.func6, Try.ntmps6
  go_wp2_with fail
  refine has.mono ?_
  rintro e w1 ⟨v1, rfl, ho1, g1⟩
  have hgd := good_any v1 zs w1 ho1.rd hwf
  clear has ho1
  go_wp2_with fail
  refine hgd.mono ?_
  rintro e w2 ⟨v2, rfl, hr2, g2⟩
  have hof := of_any v2 (goodL zs) w2 hr2 (by have := (goodL_len zs).2; omega)
  clear hgd hr2 hwf
  go_wp2_with fail
  refine hof.mono ?_
  rintro e w3 ⟨v3, rfl, ho3, g3⟩
  have HG : Hid (Grow w w3) := (g1.trans g2).trans g3
  have HL : Hid (1 ≤ (goodL zs).length ∧ (goodL zs).length ≤ 8 ∧ ∀ x ∈ goodL zs, 0 ≤ x.p ∧ x.p ≤ 2) := ⟨(goodL_len zs).1, (goodL_len zs).2, goodL_bd zs⟩
  have hl1 : 1 ≤ (goodL zs).length := HL.out.1
  have hl8 : (goodL zs).length ≤ 8 := HL.out.2.1
  have hsz := (g1.trans g2).size
  generalize goodL zs = L at *
  obtain ⟨g, hg1, hg2, hog⟩ := own_block ho3 (by omega)
  obtain ⟨o, c, hvo⟩ := own_adr hog (by omega)
  subst hvo
  have HO : Hid (OwnF (fun i => i = g) w3 (.slice (some ⟨g, o, none⟩) L.length c) L ∧ w.heap.size ≤ g ∧ g < w3.heap.size) := ⟨hog, by omega, hg2⟩
  clear hof ho3 g1 g2 g3 hg1 hg2 hog hsz
  have har := fun w' => around_any hand (L.length : Int) w' hh (by omega) (by omega)
  have hab := around_bd hand (L.length : Int) (by omega)
  generalize around hand (L.length : Int) = K at har hab
  obtain ⟨h, hK⟩ : ∃ h : Nat, K = (h : Int) := ⟨K.toNat, by omega⟩
  subst hK
  have hhl : h < L.length := by omega
  have HH : Hid (h < L.length) := hhl
  clear hab
  go_wp2_with fail
  refine (har _).mono ?_
  rintro e w4 ⟨rfl, rfl⟩
  clear har
  have ht := turn_any g o L.length c L h w3 HO.out.1.rd hhl (by omega)
  have hV := vic_lt hhl
  have hM : (trn L h).2.length = L.length := trn_len hhl
  have HE : Hid (∀ i, i < L.length → ∃ r, (trn L h).2.getD i Fl.zero = ⟨(L.getD i Fl.zero).u, (L.getD i Fl.zero).d, r, (L.getD i Fl.zero).p⟩ ∧ (r = true → (L.getD i Fl.zero).r = true) ∧ (0 < (L.getD i Fl.zero).p → r = (L.getD i Fl.zero).r)) := fun i hi => trn_left hhl hi
  generalize vic L h = V at *
  generalize hnd L h = Hd at *
  generalize decide (0 < (trn L h).1) = is at *
  generalize (trn L h).2 = M at *
  clear hV
  go_wp2_with fail
  refine ht.mono ?_
  rintro e w4 ⟨v4, rfl, ho4, g4⟩
  have HG4 : Hid (Grow w3 w4) := g4
  have HM : Hid (OwnF (fun i => w3.heap.size ≤ i) w4 v4 M) := ho4
  obtain ⟨a4, c4, hv4⟩ := ho4.shape
  rw [hM] at hv4
  subst hv4
  clear ht ho4 g4
  have hlm : M.length = L.length := hM
  have HMl : Hid (M.length = L.length) := hM
  clear hM hlm
  obtain ⟨bm, om, ham, hbm⟩ := rdF_addr HM.out.rd (by rw [HMl.out]; omega)
  subst ham
  have hq0 : ((L.length : Int) == (L.length : Int)) = true := by simp
  clear hbm
  go_wp2
  go_loopg [11] L.length (fun m iv wr => ∃ j : Nat, m = L.length - j ∧ j ≤ L.length ∧ iv = .int .i64 j ∧ Hid (Grow w3 wr) ∧ Hid (Grow w4 wr))
  case atStart => exact ⟨0, by omega, by omega, rfl, HG4, Grow.refl _⟩
  case round =>
    obtain ⟨j, hk, hj, rfl, HW, HW4⟩ := hrel
    by_cases hlt : j < L.length
    · have hle : (j : Int) < (L.length : Int) := by omega
      have HJ : Hid (j < L.length ∧ gk = L.length - j) := ⟨hlt, hk⟩
      have hw1 : IntKind.i64.wrap ((j : Int) + 1) = (j : Int) + 1 := by rw [IntKind.wrap_i64]; omega
      obtain ⟨yr, hy, hyr, hyp⟩ := HE.out j hlt
      have fl := (rdF_in HO.out.1.rd hlt).grow HW.out
      have fm := (rdF_in HM.out.rd (i := j) (by rw [HMl.out]; exact hlt)).grow HW4.out
      rw [hy] at fm
      clear hk hj hlt hy
      generalize L.getD j Fl.zero = e at *
      obtain ⟨u, d, er, q⟩ := e
      simp only [] at fl fm hyr hyp
      have HX0 : Hid (FIn wr g (o + j * 4) ⟨u, d, er, q⟩ ∧ FIn wr bm (om + j * 4) ⟨u, d, yr, q⟩) := ⟨fl, fm⟩
      have HR : Hid True := trivial
      clear fl fm
      by_cases hp : 0 < q
      · have e2 := hyp hp
        subst e2
        clear hyr hyp
        cases yr
        · skip
          have HX : Hid (FIn wr g (o + j * 4) ⟨u, d, false, q⟩ ∧ FIn wr bm (om + j * 4) ⟨u, d, false, q⟩) := HX0
          clear HX0 HR
          have hq : decide (0 < q) = true := by simp; omega
          have hq' : 0 < q := hp
          clear hp
          have gA : Grow wr (wr.alloc (.cells #[.bool u, .bool d, .bool false, .int .i64 q] 40)) := (Grow.refl _).alloc _
          have vA := VarAt.new wr [.bool u, .bool d, .bool false, .int .i64 q] 40
          have HA : Hid (VarAt (wr.alloc (.cells #[.bool u, .bool d, .bool false, .int .i64 q] 40)) wr.heap.size [.bool u, .bool d, .bool false, .int .i64 q] ∧ FIn (wr.alloc (.cells #[.bool u, .bool d, .bool false, .int .i64 q] 40)) g (o + j * 4) ⟨u, d, false, q⟩ ∧ Grow w3 (wr.alloc (.cells #[.bool u, .bool d, .bool false, .int .i64 q] 40)) ∧ w3.heap.size ≤ wr.heap.size ∧ g < wr.heap.size) := ⟨vA, HX.out.1.grow gA, HW.out.trans gA, HW.out.size, by have := HW.out.size; have := HO.out.2.2; omega⟩
          have HA4 : Hid (Grow w4 (wr.alloc (.cells #[.bool u, .bool d, .bool false, .int .i64 q] 40)) ∧ w4.heap.size ≤ wr.heap.size) := ⟨HW4.out.trans gA, HW4.out.size⟩
          obtain ⟨k0, k1, k2, k3⟩ := HX.out.2
          simp only [] at k0 k1 k2 k3
          clear gA vA
          go_upto_region 10 with fail
          clear k0 k1 k2 k3
          generalize (wr.alloc (.cells #[.bool u, .bool d, .bool false, .int .i64 q] 40)) = W1 at HA HA4 ⊢
          obtain ⟨B, hB⟩ : ∃ B, wr.heap.size = B := ⟨_, rfl⟩
          rw [hB] at HA HA4 ⊢
          clear hB
          have kx : ∀ w', Grow W1.drew w' → VarAt w' B [.bool u, .bool d, .bool false, .int .i64 q] ∧ FIn w' g (o + j * 4) ⟨u, d, false, q⟩ := fun w' hg => ⟨HA.out.1.grow ((Grow.refl W1).drew.trans hg), HA.out.2.1.grow ((Grow.refl W1).drew.trans hg)⟩
          refine wp_region_sched (by kernel_rfl) [(0, false), (1, false), (2, false), (3, false), (4, false), (5, false), (6, false), (7, false), (8, false), (9, false), (10, false), (11, false), (12, false), (13, false)] (by kernel_rfl) (by kernel_rfl) rfl (fun _ _ d _ _ h => by cases d <;> exact h) ?_
          simp only [inOrder, List.filterMap_cons, List.filterMap_nil, List.getElem?_toArray, List.getElem?_cons_zero, List.getElem?_cons_succ, Option.map_some]
          repeat (first
            | (refine wpS_move rfl ?_; simp only [Act.eval, Act.put, Array.getD_eq_getD_getElem?, List.getElem?_toArray, List.getElem?_cons_zero, List.getElem?_cons_succ, Option.getD_some, List.setIfInBounds_toArray, List.set_cons_zero, List.set_cons_succ])
            | (refine wpS_assign rfl ?_; simp only [Act.eval, Act.put, Array.getD_eq_getD_getElem?, List.getElem?_toArray, List.getElem?_cons_zero, List.getElem?_cons_succ, Option.getD_some, List.setIfInBounds_toArray, List.set_cons_zero, List.set_cons_succ])
            | (refine wpS_read (v := ?_) rfl ?_ ?_; rotate_left; (focus (intro w' hG; obtain ⟨⟨m0, m1, m2, m3⟩, -⟩ := (kx w' hG).1.four; obtain ⟨k0, k1, k2, k3⟩ := (kx w' hG).2; go_simp; try (with_reducible rfl))); simp only [Act.put, List.setIfInBounds_toArray, List.set_cons_zero, List.set_cons_succ])
            | (refine wpS_skip rfl ?_; simp only [Act.put, List.setIfInBounds_toArray, List.set_cons_zero, List.set_cons_succ]))
          refine wpS_nil ?_
          clear kx
          obtain ⟨⟨m0, m1, m2, m3⟩, f0, f1, f2, f3⟩ := HA.out.1.four
          obtain ⟨k0, k1, k2, k3⟩ := HA.out.2.1
          simp only [] at k0 k1 k2 k3
          have HC : Hid (VarAt (W1.setCell ⟨B, 2, none⟩ (.bool false)).drew B [.bool u, .bool d, .bool false, .int .i64 q] ∧ FIn (W1.setCell ⟨B, 2, none⟩ (.bool false)).drew g (o + j * 4) ⟨u, d, false, q⟩ ∧ Grow w3 (W1.setCell ⟨B, 2, none⟩ (.bool false)).drew ∧ Grow w4 (W1.setCell ⟨B, 2, none⟩ (.bool false)).drew) :=
            ⟨(HA.out.1.set 2 _).grow (Grow.refl _).drew, (HA.out.2.1.upd (upd_one W1 B 2 _) (by have := HA.out; omega)).grow (Grow.refl _).drew, (UpdS.new HA.out.2.2.1 (upd_one W1 B 2 _) (fun i hi => by have := HA.out; omega)).drew, (UpdS.new HA4.out.1 (upd_one W1 B 2 _) (fun i hi => by have := HA4.out; omega)).drew⟩
          go_upto_region 15 with fail
          clear m0 m1 m2 m3 f0 f1 f2 f3 k0 k1 k2 k3 HA HA4
          generalize (W1.setCell ⟨B, 2, none⟩ (.bool false)).drew = W2 at HC ⊢
          have kx : ∀ w', Grow W2.drew w' → VarAt w' B [.bool u, .bool d, .bool false, .int .i64 q] ∧ FIn w' g (o + j * 4) ⟨u, d, false, q⟩ := fun w' hg => ⟨HC.out.1.grow ((Grow.refl W2).drew.trans hg), HC.out.2.1.grow ((Grow.refl W2).drew.trans hg)⟩
          refine wp_region_sched (by kernel_rfl) [(0, false), (1, false), (2, false), (3, false), (4, false), (5, false)] (by kernel_rfl) (by kernel_rfl) rfl (fun _ _ d _ _ h => by cases d <;> exact h) ?_
          simp only [inOrder, List.filterMap_cons, List.filterMap_nil, List.getElem?_toArray, List.getElem?_cons_zero, List.getElem?_cons_succ, Option.map_some]
          repeat (first
            | (refine wpS_move rfl ?_; simp only [Act.eval, Act.put, Array.getD_eq_getD_getElem?, List.getElem?_toArray, List.getElem?_cons_zero, List.getElem?_cons_succ, Option.getD_some, List.setIfInBounds_toArray, List.set_cons_zero, List.set_cons_succ])
            | (refine wpS_assign rfl ?_; simp only [Act.eval, Act.put, Array.getD_eq_getD_getElem?, List.getElem?_toArray, List.getElem?_cons_zero, List.getElem?_cons_succ, Option.getD_some, List.setIfInBounds_toArray, List.set_cons_zero, List.set_cons_succ])
            | (refine wpS_read (v := ?_) rfl ?_ ?_; rotate_left; (focus (intro w' hG; obtain ⟨⟨m0, m1, m2, m3⟩, -⟩ := (kx w' hG).1.four; obtain ⟨k0, k1, k2, k3⟩ := (kx w' hG).2; go_simp; try (with_reducible rfl))); simp only [Act.put, List.setIfInBounds_toArray, List.set_cons_zero, List.set_cons_succ])
            | (refine wpS_skip rfl ?_; simp only [Act.put, List.setIfInBounds_toArray, List.set_cons_zero, List.set_cons_succ]))
          refine wpS_nil ?_
          clear kx
          have HF : Hid (Grow w3 W2.drew ∧ Grow w4 W2.drew) := ⟨HC.out.2.2.1.drew, HC.out.2.2.2.drew⟩
          go_wp2
          go_roundg (L.length - (j + 1))
          case measure => have := HJ.out; omega
          case rel => exact ⟨j + 1, rfl, HJ.out.1, rfl, HF.out.1, HF.out.2⟩
        · skip
          have HX : Hid (FIn wr g (o + j * 4) ⟨u, d, true, q⟩ ∧ FIn wr bm (om + j * 4) ⟨u, d, true, q⟩) := HX0
          clear HX0 HR
          have hq : decide (0 < q) = true := by simp; omega
          have hq' : 0 < q := hp
          clear hp
          have gA : Grow wr (wr.alloc (.cells #[.bool u, .bool d, .bool true, .int .i64 q] 40)) := (Grow.refl _).alloc _
          have vA := VarAt.new wr [.bool u, .bool d, .bool true, .int .i64 q] 40
          have HA : Hid (VarAt (wr.alloc (.cells #[.bool u, .bool d, .bool true, .int .i64 q] 40)) wr.heap.size [.bool u, .bool d, .bool true, .int .i64 q] ∧ FIn (wr.alloc (.cells #[.bool u, .bool d, .bool true, .int .i64 q] 40)) g (o + j * 4) ⟨u, d, true, q⟩ ∧ Grow w3 (wr.alloc (.cells #[.bool u, .bool d, .bool true, .int .i64 q] 40)) ∧ w3.heap.size ≤ wr.heap.size ∧ g < wr.heap.size) := ⟨vA, HX.out.1.grow gA, HW.out.trans gA, HW.out.size, by have := HW.out.size; have := HO.out.2.2; omega⟩
          have HA4 : Hid (Grow w4 (wr.alloc (.cells #[.bool u, .bool d, .bool true, .int .i64 q] 40)) ∧ w4.heap.size ≤ wr.heap.size) := ⟨HW4.out.trans gA, HW4.out.size⟩
          obtain ⟨k0, k1, k2, k3⟩ := HX.out.2
          simp only [] at k0 k1 k2 k3
          clear gA vA
          go_upto_region 10 with fail
          clear k0 k1 k2 k3
          generalize (wr.alloc (.cells #[.bool u, .bool d, .bool true, .int .i64 q] 40)) = W1 at HA HA4 ⊢
          obtain ⟨B, hB⟩ : ∃ B, wr.heap.size = B := ⟨_, rfl⟩
          rw [hB] at HA HA4 ⊢
          clear hB
          have kx : ∀ w', Grow W1.drew w' → VarAt w' B [.bool u, .bool d, .bool true, .int .i64 q] ∧ FIn w' g (o + j * 4) ⟨u, d, true, q⟩ := fun w' hg => ⟨HA.out.1.grow ((Grow.refl W1).drew.trans hg), HA.out.2.1.grow ((Grow.refl W1).drew.trans hg)⟩
          refine wp_region_sched (by kernel_rfl) [(0, false), (1, false), (2, false), (3, false), (4, false), (5, false), (6, false), (7, false), (8, false), (9, false), (10, false), (11, false), (12, false), (13, false)] (by kernel_rfl) (by kernel_rfl) rfl (fun _ _ d _ _ h => by cases d <;> exact h) ?_
          simp only [inOrder, List.filterMap_cons, List.filterMap_nil, List.getElem?_toArray, List.getElem?_cons_zero, List.getElem?_cons_succ, Option.map_some]
          repeat (first
            | (refine wpS_move rfl ?_; simp only [Act.eval, Act.put, Array.getD_eq_getD_getElem?, List.getElem?_toArray, List.getElem?_cons_zero, List.getElem?_cons_succ, Option.getD_some, List.setIfInBounds_toArray, List.set_cons_zero, List.set_cons_succ])
            | (refine wpS_assign rfl ?_; simp only [Act.eval, Act.put, Array.getD_eq_getD_getElem?, List.getElem?_toArray, List.getElem?_cons_zero, List.getElem?_cons_succ, Option.getD_some, List.setIfInBounds_toArray, List.set_cons_zero, List.set_cons_succ])
            | (refine wpS_read (v := ?_) rfl ?_ ?_; rotate_left; (focus (intro w' hG; obtain ⟨⟨m0, m1, m2, m3⟩, -⟩ := (kx w' hG).1.four; obtain ⟨k0, k1, k2, k3⟩ := (kx w' hG).2; go_simp; try (with_reducible rfl))); simp only [Act.put, List.setIfInBounds_toArray, List.set_cons_zero, List.set_cons_succ])
            | (refine wpS_skip rfl ?_; simp only [Act.put, List.setIfInBounds_toArray, List.set_cons_zero, List.set_cons_succ]))
          refine wpS_nil ?_
          clear kx
          obtain ⟨⟨m0, m1, m2, m3⟩, f0, f1, f2, f3⟩ := HA.out.1.four
          obtain ⟨k0, k1, k2, k3⟩ := HA.out.2.1
          simp only [] at k0 k1 k2 k3
          have HC : Hid (VarAt (W1.setCell ⟨B, 2, none⟩ (.bool true)).drew B [.bool u, .bool d, .bool true, .int .i64 q] ∧ FIn (W1.setCell ⟨B, 2, none⟩ (.bool true)).drew g (o + j * 4) ⟨u, d, true, q⟩ ∧ Grow w3 (W1.setCell ⟨B, 2, none⟩ (.bool true)).drew ∧ Grow w4 (W1.setCell ⟨B, 2, none⟩ (.bool true)).drew) :=
            ⟨(HA.out.1.set 2 _).grow (Grow.refl _).drew, (HA.out.2.1.upd (upd_one W1 B 2 _) (by have := HA.out; omega)).grow (Grow.refl _).drew, (UpdS.new HA.out.2.2.1 (upd_one W1 B 2 _) (fun i hi => by have := HA.out; omega)).drew, (UpdS.new HA4.out.1 (upd_one W1 B 2 _) (fun i hi => by have := HA4.out; omega)).drew⟩
          go_upto_region 15 with fail
          clear m0 m1 m2 m3 f0 f1 f2 f3 k0 k1 k2 k3 HA HA4
          generalize (W1.setCell ⟨B, 2, none⟩ (.bool true)).drew = W2 at HC ⊢
          have kx : ∀ w', Grow W2.drew w' → VarAt w' B [.bool u, .bool d, .bool true, .int .i64 q] ∧ FIn w' g (o + j * 4) ⟨u, d, true, q⟩ := fun w' hg => ⟨HC.out.1.grow ((Grow.refl W2).drew.trans hg), HC.out.2.1.grow ((Grow.refl W2).drew.trans hg)⟩
          refine wp_region_sched (by kernel_rfl) [(0, false), (1, false), (2, false), (3, false), (4, false), (5, false)] (by kernel_rfl) (by kernel_rfl) rfl (fun _ _ d _ _ h => by cases d <;> exact h) ?_
          simp only [inOrder, List.filterMap_cons, List.filterMap_nil, List.getElem?_toArray, List.getElem?_cons_zero, List.getElem?_cons_succ, Option.map_some]
          repeat (first
            | (refine wpS_move rfl ?_; simp only [Act.eval, Act.put, Array.getD_eq_getD_getElem?, List.getElem?_toArray, List.getElem?_cons_zero, List.getElem?_cons_succ, Option.getD_some, List.setIfInBounds_toArray, List.set_cons_zero, List.set_cons_succ])
            | (refine wpS_assign rfl ?_; simp only [Act.eval, Act.put, Array.getD_eq_getD_getElem?, List.getElem?_toArray, List.getElem?_cons_zero, List.getElem?_cons_succ, Option.getD_some, List.setIfInBounds_toArray, List.set_cons_zero, List.set_cons_succ])
            | (refine wpS_read (v := ?_) rfl ?_ ?_; rotate_left; (focus (intro w' hG; obtain ⟨⟨m0, m1, m2, m3⟩, -⟩ := (kx w' hG).1.four; obtain ⟨k0, k1, k2, k3⟩ := (kx w' hG).2; go_simp; try (with_reducible rfl))); simp only [Act.put, List.setIfInBounds_toArray, List.set_cons_zero, List.set_cons_succ])
            | (refine wpS_skip rfl ?_; simp only [Act.put, List.setIfInBounds_toArray, List.set_cons_zero, List.set_cons_succ]))
          refine wpS_nil ?_
          clear kx
          have HF : Hid (Grow w3 W2.drew ∧ Grow w4 W2.drew) := ⟨HC.out.2.2.1.drew, HC.out.2.2.2.drew⟩
          go_wp2
          go_roundg (L.length - (j + 1))
          case measure => have := HJ.out; omega
          case rel => exact ⟨j + 1, rfl, HJ.out.1, rfl, HF.out.1, HF.out.2⟩
      · clear hyp
        cases yr
        · clear hyr
          cases er
          · skip
            have HX : Hid (FIn wr g (o + j * 4) ⟨u, d, false, q⟩ ∧ FIn wr bm (om + j * 4) ⟨u, d, false, q⟩) := HX0
            clear HX0 HR
            have hq : decide (0 < q) = false := by simp; omega
            have hq' : ¬ 0 < q := hp
            clear hp
            have gA : Grow wr (wr.alloc (.cells #[.bool u, .bool d, .bool false, .int .i64 q] 40)) := (Grow.refl _).alloc _
            have vA := VarAt.new wr [.bool u, .bool d, .bool false, .int .i64 q] 40
            have HA : Hid (VarAt (wr.alloc (.cells #[.bool u, .bool d, .bool false, .int .i64 q] 40)) wr.heap.size [.bool u, .bool d, .bool false, .int .i64 q] ∧ FIn (wr.alloc (.cells #[.bool u, .bool d, .bool false, .int .i64 q] 40)) g (o + j * 4) ⟨u, d, false, q⟩ ∧ Grow w3 (wr.alloc (.cells #[.bool u, .bool d, .bool false, .int .i64 q] 40)) ∧ w3.heap.size ≤ wr.heap.size ∧ g < wr.heap.size) := ⟨vA, HX.out.1.grow gA, HW.out.trans gA, HW.out.size, by have := HW.out.size; have := HO.out.2.2; omega⟩
            have HA4 : Hid (Grow w4 (wr.alloc (.cells #[.bool u, .bool d, .bool false, .int .i64 q] 40)) ∧ w4.heap.size ≤ wr.heap.size) := ⟨HW4.out.trans gA, HW4.out.size⟩
            obtain ⟨k0, k1, k2, k3⟩ := HX.out.2
            simp only [] at k0 k1 k2 k3
            clear gA vA
            go_upto_region 10 with fail
            clear k0 k1 k2 k3
            generalize (wr.alloc (.cells #[.bool u, .bool d, .bool false, .int .i64 q] 40)) = W1 at HA HA4 ⊢
            obtain ⟨B, hB⟩ : ∃ B, wr.heap.size = B := ⟨_, rfl⟩
            rw [hB] at HA HA4 ⊢
            clear hB
            have kx : ∀ w', Grow W1.drew w' → VarAt w' B [.bool u, .bool d, .bool false, .int .i64 q] ∧ FIn w' g (o + j * 4) ⟨u, d, false, q⟩ := fun w' hg => ⟨HA.out.1.grow ((Grow.refl W1).drew.trans hg), HA.out.2.1.grow ((Grow.refl W1).drew.trans hg)⟩
            refine wp_region_sched (by kernel_rfl) [(0, false), (1, false), (2, false), (3, false), (4, false), (5, false), (6, false), (7, false), (8, false), (9, false), (10, false), (11, false), (12, false), (13, false)] (by kernel_rfl) (by kernel_rfl) rfl (fun _ _ d _ _ h => by cases d <;> exact h) ?_
            simp only [inOrder, List.filterMap_cons, List.filterMap_nil, List.getElem?_toArray, List.getElem?_cons_zero, List.getElem?_cons_succ, Option.map_some]
            repeat (first
              | (refine wpS_move rfl ?_; simp only [Act.eval, Act.put, Array.getD_eq_getD_getElem?, List.getElem?_toArray, List.getElem?_cons_zero, List.getElem?_cons_succ, Option.getD_some, List.setIfInBounds_toArray, List.set_cons_zero, List.set_cons_succ])
              | (refine wpS_assign rfl ?_; simp only [Act.eval, Act.put, Array.getD_eq_getD_getElem?, List.getElem?_toArray, List.getElem?_cons_zero, List.getElem?_cons_succ, Option.getD_some, List.setIfInBounds_toArray, List.set_cons_zero, List.set_cons_succ])
              | (refine wpS_read (v := ?_) rfl ?_ ?_; rotate_left; (focus (intro w' hG; obtain ⟨⟨m0, m1, m2, m3⟩, -⟩ := (kx w' hG).1.four; obtain ⟨k0, k1, k2, k3⟩ := (kx w' hG).2; go_simp; try (with_reducible rfl))); simp only [Act.put, List.setIfInBounds_toArray, List.set_cons_zero, List.set_cons_succ])
              | (refine wpS_skip rfl ?_; simp only [Act.put, List.setIfInBounds_toArray, List.set_cons_zero, List.set_cons_succ]))
            refine wpS_nil ?_
            clear kx
            obtain ⟨⟨m0, m1, m2, m3⟩, f0, f1, f2, f3⟩ := HA.out.1.four
            obtain ⟨k0, k1, k2, k3⟩ := HA.out.2.1
            simp only [] at k0 k1 k2 k3
            have HC : Hid (VarAt (W1.setCell ⟨B, 2, none⟩ (.bool false)).drew B [.bool u, .bool d, .bool false, .int .i64 q] ∧ FIn (W1.setCell ⟨B, 2, none⟩ (.bool false)).drew g (o + j * 4) ⟨u, d, false, q⟩ ∧ Grow w3 (W1.setCell ⟨B, 2, none⟩ (.bool false)).drew ∧ Grow w4 (W1.setCell ⟨B, 2, none⟩ (.bool false)).drew) :=
              ⟨(HA.out.1.set 2 _).grow (Grow.refl _).drew, (HA.out.2.1.upd (upd_one W1 B 2 _) (by have := HA.out; omega)).grow (Grow.refl _).drew, (UpdS.new HA.out.2.2.1 (upd_one W1 B 2 _) (fun i hi => by have := HA.out; omega)).drew, (UpdS.new HA4.out.1 (upd_one W1 B 2 _) (fun i hi => by have := HA4.out; omega)).drew⟩
            go_upto_region 15 with fail
            clear m0 m1 m2 m3 f0 f1 f2 f3 k0 k1 k2 k3 HA HA4
            generalize (W1.setCell ⟨B, 2, none⟩ (.bool false)).drew = W2 at HC ⊢
            have kx : ∀ w', Grow W2.drew w' → VarAt w' B [.bool u, .bool d, .bool false, .int .i64 q] ∧ FIn w' g (o + j * 4) ⟨u, d, false, q⟩ := fun w' hg => ⟨HC.out.1.grow ((Grow.refl W2).drew.trans hg), HC.out.2.1.grow ((Grow.refl W2).drew.trans hg)⟩
            refine wp_region_sched (by kernel_rfl) [(0, false), (1, false), (2, false), (3, false), (4, false), (5, false)] (by kernel_rfl) (by kernel_rfl) rfl (fun _ _ d _ _ h => by cases d <;> exact h) ?_
            simp only [inOrder, List.filterMap_cons, List.filterMap_nil, List.getElem?_toArray, List.getElem?_cons_zero, List.getElem?_cons_succ, Option.map_some]
            repeat (first
              | (refine wpS_move rfl ?_; simp only [Act.eval, Act.put, Array.getD_eq_getD_getElem?, List.getElem?_toArray, List.getElem?_cons_zero, List.getElem?_cons_succ, Option.getD_some, List.setIfInBounds_toArray, List.set_cons_zero, List.set_cons_succ])
              | (refine wpS_assign rfl ?_; simp only [Act.eval, Act.put, Array.getD_eq_getD_getElem?, List.getElem?_toArray, List.getElem?_cons_zero, List.getElem?_cons_succ, Option.getD_some, List.setIfInBounds_toArray, List.set_cons_zero, List.set_cons_succ])
              | (refine wpS_read (v := ?_) rfl ?_ ?_; rotate_left; (focus (intro w' hG; obtain ⟨⟨m0, m1, m2, m3⟩, -⟩ := (kx w' hG).1.four; obtain ⟨k0, k1, k2, k3⟩ := (kx w' hG).2; go_simp; try (with_reducible rfl))); simp only [Act.put, List.setIfInBounds_toArray, List.set_cons_zero, List.set_cons_succ])
              | (refine wpS_skip rfl ?_; simp only [Act.put, List.setIfInBounds_toArray, List.set_cons_zero, List.set_cons_succ]))
            refine wpS_nil ?_
            clear kx
            have HF : Hid (Grow w3 W2.drew ∧ Grow w4 W2.drew) := ⟨HC.out.2.2.1.drew, HC.out.2.2.2.drew⟩
            go_wp2
            go_roundg (L.length - (j + 1))
            case measure => have := HJ.out; omega
            case rel => exact ⟨j + 1, rfl, HJ.out.1, rfl, HF.out.1, HF.out.2⟩
          · skip
            have HX : Hid (FIn wr g (o + j * 4) ⟨u, d, true, q⟩ ∧ FIn wr bm (om + j * 4) ⟨u, d, false, q⟩) := HX0
            clear HX0 HR
            have hq : decide (0 < q) = false := by simp; omega
            have hq' : ¬ 0 < q := hp
            clear hp
            have gA : Grow wr (wr.alloc (.cells #[.bool u, .bool d, .bool false, .int .i64 q] 40)) := (Grow.refl _).alloc _
            have vA := VarAt.new wr [.bool u, .bool d, .bool false, .int .i64 q] 40
            have HA : Hid (VarAt (wr.alloc (.cells #[.bool u, .bool d, .bool false, .int .i64 q] 40)) wr.heap.size [.bool u, .bool d, .bool false, .int .i64 q] ∧ FIn (wr.alloc (.cells #[.bool u, .bool d, .bool false, .int .i64 q] 40)) g (o + j * 4) ⟨u, d, true, q⟩ ∧ Grow w3 (wr.alloc (.cells #[.bool u, .bool d, .bool false, .int .i64 q] 40)) ∧ w3.heap.size ≤ wr.heap.size ∧ g < wr.heap.size) := ⟨vA, HX.out.1.grow gA, HW.out.trans gA, HW.out.size, by have := HW.out.size; have := HO.out.2.2; omega⟩
            have HA4 : Hid (Grow w4 (wr.alloc (.cells #[.bool u, .bool d, .bool false, .int .i64 q] 40)) ∧ w4.heap.size ≤ wr.heap.size) := ⟨HW4.out.trans gA, HW4.out.size⟩
            obtain ⟨k0, k1, k2, k3⟩ := HX.out.2
            simp only [] at k0 k1 k2 k3
            clear gA vA
            go_upto_region 10 with fail
            clear k0 k1 k2 k3
            generalize (wr.alloc (.cells #[.bool u, .bool d, .bool false, .int .i64 q] 40)) = W1 at HA HA4 ⊢
            obtain ⟨B, hB⟩ : ∃ B, wr.heap.size = B := ⟨_, rfl⟩
            rw [hB] at HA HA4 ⊢
            clear hB
            have kx : ∀ w', Grow W1.drew w' → VarAt w' B [.bool u, .bool d, .bool false, .int .i64 q] ∧ FIn w' g (o + j * 4) ⟨u, d, true, q⟩ := fun w' hg => ⟨HA.out.1.grow ((Grow.refl W1).drew.trans hg), HA.out.2.1.grow ((Grow.refl W1).drew.trans hg)⟩
            refine wp_region_sched (by kernel_rfl) [(0, false), (1, false), (2, false), (3, false), (4, false), (5, false), (6, false), (7, false), (8, false), (9, false), (10, false), (11, false), (12, false), (13, false)] (by kernel_rfl) (by kernel_rfl) rfl (fun _ _ d _ _ h => by cases d <;> exact h) ?_
            simp only [inOrder, List.filterMap_cons, List.filterMap_nil, List.getElem?_toArray, List.getElem?_cons_zero, List.getElem?_cons_succ, Option.map_some]
            repeat (first
              | (refine wpS_move rfl ?_; simp only [Act.eval, Act.put, Array.getD_eq_getD_getElem?, List.getElem?_toArray, List.getElem?_cons_zero, List.getElem?_cons_succ, Option.getD_some, List.setIfInBounds_toArray, List.set_cons_zero, List.set_cons_succ])
              | (refine wpS_assign rfl ?_; simp only [Act.eval, Act.put, Array.getD_eq_getD_getElem?, List.getElem?_toArray, List.getElem?_cons_zero, List.getElem?_cons_succ, Option.getD_some, List.setIfInBounds_toArray, List.set_cons_zero, List.set_cons_succ])
              | (refine wpS_read (v := ?_) rfl ?_ ?_; rotate_left; (focus (intro w' hG; obtain ⟨⟨m0, m1, m2, m3⟩, -⟩ := (kx w' hG).1.four; obtain ⟨k0, k1, k2, k3⟩ := (kx w' hG).2; go_simp; try (with_reducible rfl))); simp only [Act.put, List.setIfInBounds_toArray, List.set_cons_zero, List.set_cons_succ])
              | (refine wpS_skip rfl ?_; simp only [Act.put, List.setIfInBounds_toArray, List.set_cons_zero, List.set_cons_succ]))
            refine wpS_nil ?_
            clear kx
            obtain ⟨⟨m0, m1, m2, m3⟩, f0, f1, f2, f3⟩ := HA.out.1.four
            obtain ⟨k0, k1, k2, k3⟩ := HA.out.2.1
            simp only [] at k0 k1 k2 k3
            have HC : Hid (VarAt (W1.setCell ⟨B, 2, none⟩ (.bool true)).drew B [.bool u, .bool d, .bool true, .int .i64 q] ∧ FIn (W1.setCell ⟨B, 2, none⟩ (.bool true)).drew g (o + j * 4) ⟨u, d, true, q⟩ ∧ Grow w3 (W1.setCell ⟨B, 2, none⟩ (.bool true)).drew ∧ Grow w4 (W1.setCell ⟨B, 2, none⟩ (.bool true)).drew) :=
              ⟨(HA.out.1.set 2 _).grow (Grow.refl _).drew, (HA.out.2.1.upd (upd_one W1 B 2 _) (by have := HA.out; omega)).grow (Grow.refl _).drew, (UpdS.new HA.out.2.2.1 (upd_one W1 B 2 _) (fun i hi => by have := HA.out; omega)).drew, (UpdS.new HA4.out.1 (upd_one W1 B 2 _) (fun i hi => by have := HA4.out; omega)).drew⟩
            go_upto_region 15 with fail
            clear m0 m1 m2 m3 f0 f1 f2 f3 k0 k1 k2 k3 HA HA4
            generalize (W1.setCell ⟨B, 2, none⟩ (.bool true)).drew = W2 at HC ⊢
            have kx : ∀ w', Grow W2.drew w' → VarAt w' B [.bool u, .bool d, .bool true, .int .i64 q] ∧ FIn w' g (o + j * 4) ⟨u, d, true, q⟩ := fun w' hg => ⟨HC.out.1.grow ((Grow.refl W2).drew.trans hg), HC.out.2.1.grow ((Grow.refl W2).drew.trans hg)⟩
            refine wp_region_sched (by kernel_rfl) [(0, false), (1, false), (2, false), (3, false), (4, false), (5, false)] (by kernel_rfl) (by kernel_rfl) rfl (fun _ _ d _ _ h => by cases d <;> exact h) ?_
            simp only [inOrder, List.filterMap_cons, List.filterMap_nil, List.getElem?_toArray, List.getElem?_cons_zero, List.getElem?_cons_succ, Option.map_some]
            repeat (first
              | (refine wpS_move rfl ?_; simp only [Act.eval, Act.put, Array.getD_eq_getD_getElem?, List.getElem?_toArray, List.getElem?_cons_zero, List.getElem?_cons_succ, Option.getD_some, List.setIfInBounds_toArray, List.set_cons_zero, List.set_cons_succ])
              | (refine wpS_assign rfl ?_; simp only [Act.eval, Act.put, Array.getD_eq_getD_getElem?, List.getElem?_toArray, List.getElem?_cons_zero, List.getElem?_cons_succ, Option.getD_some, List.setIfInBounds_toArray, List.set_cons_zero, List.set_cons_succ])
              | (refine wpS_read (v := ?_) rfl ?_ ?_; rotate_left; (focus (intro w' hG; obtain ⟨⟨m0, m1, m2, m3⟩, -⟩ := (kx w' hG).1.four; obtain ⟨k0, k1, k2, k3⟩ := (kx w' hG).2; go_simp; try (with_reducible rfl))); simp only [Act.put, List.setIfInBounds_toArray, List.set_cons_zero, List.set_cons_succ])
              | (refine wpS_skip rfl ?_; simp only [Act.put, List.setIfInBounds_toArray, List.set_cons_zero, List.set_cons_succ]))
            refine wpS_nil ?_
            clear kx
            have HF : Hid (Grow w3 W2.drew ∧ Grow w4 W2.drew) := ⟨HC.out.2.2.1.drew, HC.out.2.2.2.drew⟩
            go_wp2
            go_roundg (L.length - (j + 1))
            case measure => have := HJ.out; omega
            case rel => exact ⟨j + 1, rfl, HJ.out.1, rfl, HF.out.1, HF.out.2⟩
        · have e2 := hyr rfl
          subst e2
          clear hyr
          have HX : Hid (FIn wr g (o + j * 4) ⟨u, d, true, q⟩ ∧ FIn wr bm (om + j * 4) ⟨u, d, true, q⟩) := HX0
          clear HX0 HR
          have hq : decide (0 < q) = false := by simp; omega
          have hq' : ¬ 0 < q := hp
          clear hp
          have gA : Grow wr (wr.alloc (.cells #[.bool u, .bool d, .bool true, .int .i64 q] 40)) := (Grow.refl _).alloc _
          have vA := VarAt.new wr [.bool u, .bool d, .bool true, .int .i64 q] 40
          have HA : Hid (VarAt (wr.alloc (.cells #[.bool u, .bool d, .bool true, .int .i64 q] 40)) wr.heap.size [.bool u, .bool d, .bool true, .int .i64 q] ∧ FIn (wr.alloc (.cells #[.bool u, .bool d, .bool true, .int .i64 q] 40)) g (o + j * 4) ⟨u, d, true, q⟩ ∧ Grow w3 (wr.alloc (.cells #[.bool u, .bool d, .bool true, .int .i64 q] 40)) ∧ w3.heap.size ≤ wr.heap.size ∧ g < wr.heap.size) := ⟨vA, HX.out.1.grow gA, HW.out.trans gA, HW.out.size, by have := HW.out.size; have := HO.out.2.2; omega⟩
          have HA4 : Hid (Grow w4 (wr.alloc (.cells #[.bool u, .bool d, .bool true, .int .i64 q] 40)) ∧ w4.heap.size ≤ wr.heap.size) := ⟨HW4.out.trans gA, HW4.out.size⟩
          obtain ⟨k0, k1, k2, k3⟩ := HX.out.2
          simp only [] at k0 k1 k2 k3
          clear gA vA
          go_upto_region 10 with fail
          clear k0 k1 k2 k3
          generalize (wr.alloc (.cells #[.bool u, .bool d, .bool true, .int .i64 q] 40)) = W1 at HA HA4 ⊢
          obtain ⟨B, hB⟩ : ∃ B, wr.heap.size = B := ⟨_, rfl⟩
          rw [hB] at HA HA4 ⊢
          clear hB
          have kx : ∀ w', Grow W1.drew w' → VarAt w' B [.bool u, .bool d, .bool true, .int .i64 q] ∧ FIn w' g (o + j * 4) ⟨u, d, true, q⟩ := fun w' hg => ⟨HA.out.1.grow ((Grow.refl W1).drew.trans hg), HA.out.2.1.grow ((Grow.refl W1).drew.trans hg)⟩
          refine wp_region_sched (by kernel_rfl) [(0, false), (1, false), (2, false), (3, false), (4, false), (5, false), (6, false), (7, false), (8, false), (9, false), (10, false), (11, false), (12, false), (13, false)] (by kernel_rfl) (by kernel_rfl) rfl (fun _ _ d _ _ h => by cases d <;> exact h) ?_
          simp only [inOrder, List.filterMap_cons, List.filterMap_nil, List.getElem?_toArray, List.getElem?_cons_zero, List.getElem?_cons_succ, Option.map_some]
          repeat (first
            | (refine wpS_move rfl ?_; simp only [Act.eval, Act.put, Array.getD_eq_getD_getElem?, List.getElem?_toArray, List.getElem?_cons_zero, List.getElem?_cons_succ, Option.getD_some, List.setIfInBounds_toArray, List.set_cons_zero, List.set_cons_succ])
            | (refine wpS_assign rfl ?_; simp only [Act.eval, Act.put, Array.getD_eq_getD_getElem?, List.getElem?_toArray, List.getElem?_cons_zero, List.getElem?_cons_succ, Option.getD_some, List.setIfInBounds_toArray, List.set_cons_zero, List.set_cons_succ])
            | (refine wpS_read (v := ?_) rfl ?_ ?_; rotate_left; (focus (intro w' hG; obtain ⟨⟨m0, m1, m2, m3⟩, -⟩ := (kx w' hG).1.four; obtain ⟨k0, k1, k2, k3⟩ := (kx w' hG).2; go_simp; try (with_reducible rfl))); simp only [Act.put, List.setIfInBounds_toArray, List.set_cons_zero, List.set_cons_succ])
            | (refine wpS_skip rfl ?_; simp only [Act.put, List.setIfInBounds_toArray, List.set_cons_zero, List.set_cons_succ]))
          refine wpS_nil ?_
          clear kx
          obtain ⟨⟨m0, m1, m2, m3⟩, f0, f1, f2, f3⟩ := HA.out.1.four
          obtain ⟨k0, k1, k2, k3⟩ := HA.out.2.1
          simp only [] at k0 k1 k2 k3
          have HC : Hid (VarAt (W1.setCell ⟨B, 2, none⟩ (.bool true)).drew B [.bool u, .bool d, .bool true, .int .i64 q] ∧ FIn (W1.setCell ⟨B, 2, none⟩ (.bool true)).drew g (o + j * 4) ⟨u, d, true, q⟩ ∧ Grow w3 (W1.setCell ⟨B, 2, none⟩ (.bool true)).drew ∧ Grow w4 (W1.setCell ⟨B, 2, none⟩ (.bool true)).drew) :=
            ⟨(HA.out.1.set 2 _).grow (Grow.refl _).drew, (HA.out.2.1.upd (upd_one W1 B 2 _) (by have := HA.out; omega)).grow (Grow.refl _).drew, (UpdS.new HA.out.2.2.1 (upd_one W1 B 2 _) (fun i hi => by have := HA.out; omega)).drew, (UpdS.new HA4.out.1 (upd_one W1 B 2 _) (fun i hi => by have := HA4.out; omega)).drew⟩
          go_upto_region 15 with fail
          clear m0 m1 m2 m3 f0 f1 f2 f3 k0 k1 k2 k3 HA HA4
          generalize (W1.setCell ⟨B, 2, none⟩ (.bool true)).drew = W2 at HC ⊢
          have kx : ∀ w', Grow W2.drew w' → VarAt w' B [.bool u, .bool d, .bool true, .int .i64 q] ∧ FIn w' g (o + j * 4) ⟨u, d, true, q⟩ := fun w' hg => ⟨HC.out.1.grow ((Grow.refl W2).drew.trans hg), HC.out.2.1.grow ((Grow.refl W2).drew.trans hg)⟩
          refine wp_region_sched (by kernel_rfl) [(0, false), (1, false), (2, false), (3, false), (4, false), (5, false)] (by kernel_rfl) (by kernel_rfl) rfl (fun _ _ d _ _ h => by cases d <;> exact h) ?_
          simp only [inOrder, List.filterMap_cons, List.filterMap_nil, List.getElem?_toArray, List.getElem?_cons_zero, List.getElem?_cons_succ, Option.map_some]
          repeat (first
            | (refine wpS_move rfl ?_; simp only [Act.eval, Act.put, Array.getD_eq_getD_getElem?, List.getElem?_toArray, List.getElem?_cons_zero, List.getElem?_cons_succ, Option.getD_some, List.setIfInBounds_toArray, List.set_cons_zero, List.set_cons_succ])
            | (refine wpS_assign rfl ?_; simp only [Act.eval, Act.put, Array.getD_eq_getD_getElem?, List.getElem?_toArray, List.getElem?_cons_zero, List.getElem?_cons_succ, Option.getD_some, List.setIfInBounds_toArray, List.set_cons_zero, List.set_cons_succ])
            | (refine wpS_read (v := ?_) rfl ?_ ?_; rotate_left; (focus (intro w' hG; obtain ⟨⟨m0, m1, m2, m3⟩, -⟩ := (kx w' hG).1.four; obtain ⟨k0, k1, k2, k3⟩ := (kx w' hG).2; go_simp; try (with_reducible rfl))); simp only [Act.put, List.setIfInBounds_toArray, List.set_cons_zero, List.set_cons_succ])
            | (refine wpS_skip rfl ?_; simp only [Act.put, List.setIfInBounds_toArray, List.set_cons_zero, List.set_cons_succ]))
          refine wpS_nil ?_
          clear kx
          have HF : Hid (Grow w3 W2.drew ∧ Grow w4 W2.drew) := ⟨HC.out.2.2.1.drew, HC.out.2.2.2.drew⟩
          go_wp2
          go_roundg (L.length - (j + 1))
          case measure => have := HJ.out; omega
          case rel => exact ⟨j + 1, rfl, HJ.out.1, rfl, HF.out.1, HF.out.2⟩
    · have hle : ¬ (j : Int) < (L.length : Int) := by omega
      have hli := lives_any wr
      clear hk hj hlt
      go_wp2_with fail
      refine hli.mono ?_
      rintro e w5 ⟨rfl, g5⟩
      have HF : Hid (Grow w w5) := (HG.out.trans HW.out).trans g5
      clear hli g5
      go_wp2
      go_ret
      exact ⟨rfl, HF.out⟩
end Go.Proofs.Ytabhbeknpchpkaa
