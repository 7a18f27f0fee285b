/-
  The walk of ArenaApart. Conditions: the theorem's own.
-/
import Derived.Test.YtgpigllimoafaaaAreS
import Derived.Deep.LoopGhost
namespace Go.Proofs.Ytgpigllimoafaaa
open Go.RowKit
set_option linter.unusedVariables false
set_option linter.unusedSimpArgs false

theorem oct3 : Oct [1, 2, 3] := fun x hx => by
  simp at hx
  rcases hx with rfl | rfl | rfl <;> decide

set_option maxRecDepth 8000 in
set_option maxHeartbeats 8000000 in
theorem arenaApart_walk (v vb : Value) (p pb : Nat → Prop) (zs cs : List Int) (ii kk : Int) (cl : Bool) (w : World) (hv : RdV (Value.int .i64) 0 p w v zs) (hz : ∀ x ∈ zs, (Lit.int .i64 x).wf = true) (hvb : RdV (Value.int .u8) 0 pb w vb cs) (hoc : Oct cs) (hii : (Lit.int .i64 ii).wf = true) (hkk : (Lit.int .i64 kk).wf = true) : Calls Try.prog 5 #[v, vb, .int .i64 ii, .int .i64 kk, .bool cl] w fun e w' => e = .returned (.bool true) ∧ Grow w w' := by
  have hgd := agood_any w p v zs hv hz
  have hQ : CutOk (quoL zs) := quoL_ok zs
  have hqwf : ∀ x ∈ quoL zs, (Lit.int .i64 x).wf = true := fun x hx => wfI (by have := quoL_each zs x hx; omega)
  have hql := quoL_len zs
  generalize quoL zs = q at hgd hQ hqwf hql
  have HQ : Hid (CutOk q ∧ 1 ≤ q.length ∧ q.length ≤ 4) := ⟨hQ, hql⟩
  have HVB : Hid (RdV (Value.int .u8) 0 pb w vb cs ∧ Oct cs) := ⟨hvb, hoc⟩
  have HII : Hid ((Lit.int .i64 ii).wf = true) := hii
  have HKK : Hid ((Lit.int .i64 kk).wf = true) := hkk
  have hql4 : q.length ≤ 4 := hql.2
  clear hQ hv hz hvb hoc hii hkk hql
  go_enter Try.func5, Try.ntmps5
  go_wp2_with fail
  refine hgd.mono ?_
  rintro e w1 ⟨v1, rfl, ho, g1⟩
  have hc := cut_any w1 _ v1 q ho.rd hqwf
  have hB : w.heap.size ≤ w1.heap.size := g1.size
  obtain ⟨a1, c1, rfl⟩ := ho.shape
  clear hgd hqwf ho
  go_wp2_with fail
  refine hc.mono ?_
  rintro e w2 ⟨hp, g2⟩
  clear hc
  rcases hp with ⟨-, A, M0, rfl, kA, hl, hnw⟩ | ⟨hno, -⟩
  · have hfl := fill_any vb cs 32 32 _ w2 rfl (HVB.out.1.grow (g1.trans g2)).i (by omega)
    have hm0 := hnw.map hl (fun i hi => (HQ.out.1.2.2.1 i hi).1)
    have hbl := fillL_length cs 32
    have hbo := oct_fill HVB.out.2 32
    generalize fillL cs 32 = bs at hfl hbl hbo
    obtain ⟨B, hBB⟩ : ∃ B, w1.heap.size = B := ⟨_, rfl⟩
    rw [hBB] at kA hB
    obtain ⟨N, hNN⟩ : ∃ N, w2.heap.size = N := ⟨_, rfl⟩
    rw [hNN] at hfl
    have H1 : Hid (ArAt B w2 A M0 ∧ M0.map PS.len = q ∧ M0.length = q.length ∧ NewM q M0 ∧ (∀ i, i < M0.length → ∀ x, (M0.getD i PS.zero).has x → x < N) ∧ Grow w w2 ∧ w.heap.size ≤ B ∧ bs.length = 32 ∧ Oct bs) := ⟨kA, hm0, hl, hnw, fun i hi x hx => by have := (kA.row.1 i hi).lt hx; omega, g1.trans g2, hB, hbl, hbo⟩
    clear kA hl hnw g1 g2 hm0 hB hBB hNN hbl hbo
    go_wp2_with fail
    refine hfl.mono ?_
    rintro e w3 ⟨v3, rfl, o3, g3⟩
    obtain ⟨ap, cp, hv3⟩ := o3.v.shape
    rw [H1.out.2.2.2.2.2.2.2.1] at hv3
    subst hv3
    have H2 : Hid (ApSt w w3 N B A q M0 (.slice ap 32 cp) bs) := ⟨H1.out.1.grow g3, H1.out.2.1, H1.out.2.2.1, o3.v.rd, H1.out.2.2.2.2.1, H1.out.2.2.2.2.2.1.trans g3⟩
    have HB : Hid (w.heap.size ≤ B ∧ bs.length = 32 ∧ Oct bs) := H1.out.2.2.2.2.2.2
    have HNW : Hid (∀ i, i < M0.length → (M0.getD i PS.zero).L = List.replicate (M0.getD i PS.zero).L.length FS.empty) := fun i hi => by
      rw [(H1.out.2.2.2.1 i hi).1, List.length_replicate]
    clear hfl o3 g3 H1
    go_wp2
    go_loopg [15] q.length (fun g iv wr => ∃ (j : Nat) (M : List PS), g = q.length - j ∧ j ≤ q.length ∧ iv = .int .i64 j ∧ Hid (ApSt w wr N B A q M (.slice ap 32 cp) bs ∧ (∀ i, i < M.length → i < j → (M.getD i PS.zero).L.getD 0 FS.empty = fr15 i bs) ∧ ∀ i, i < M.length → j ≤ i → (M.getD i PS.zero).L = List.replicate (M.getD i PS.zero).L.length FS.empty))
    case atStart => exact ⟨0, M0, rfl, Nat.zero_le _, rfl, H2.out, fun i _ hi => absurd hi (Nat.not_lt_zero _), fun i hi _ => HNW.out i hi⟩
    case round =>
      clear H2
      obtain ⟨j, M, hj, hj2, rfl, HS⟩ := hrel
      have HG : Hid (gk = q.length - j) := hj
      clear hj
      by_cases hlt : j < q.length
      · have hle : (j : Int) < (q.length : Int) := by omega
        have hw0 : IntKind.i64.wrap ((j : Int) + 1) = ((j + 1 : Nat) : Int) := by rw [IntKind.wrap_i64]; omega
        have HJ : Hid (j < q.length) := hlt
        have hjM : j < M.length := by rw [HS.out.1.2.2.1]; exact hlt
        have HJM : Hid (j < M.length) := hjM
        have hpt := part_yes _ wr A M HS.out.1.1 j hjM
        have hth := HS.out.1.1.row.1 j hjM
        have HTH : Hid (PS.There wr (M.getD j PS.zero)) := hth
        have hld := load_any wr _ _ 0 _ _ hth.1 hth.2 0 (j : Int) (.slice ap 32 cp) bs (HS.out.1.2.2.2.1.mono (fun i _ hi => ⟨fun e => by have := HS.out.1.2.2.2.2.1 j hjM i (.inl e); omega, fun e => by have := HS.out.1.2.2.2.2.1 j hjM i (.inr e); omega⟩))
        have hrep := HS.out.2.2 j hjM (Nat.le_refl _)
        have hle1 := apr_load (j := (j : Int)) (bs := bs) hth.pos.1 HB.out.2.1
        rw [← hrep] at hle1
        rw [hle1] at hld
        clear hth hlt hj2 hjM hrep hle1
        go_wp2_with fail
        refine hpt.mono ?_
        rintro e w4 ⟨rfl, rfl⟩
        clear hpt
        go_wp2_with fail
        refine hld.mono ?_
        rintro e w4 ⟨rfl, k4, u4⟩
        have HK4 : Hid (PtOk ((M.getD j PS.zero).L.set 0 ⟨true, false, false, 0, j, bs⟩) (M.getD j PS.zero).h) := HTH.out.2.set ⟨HB.out.2.1, HB.out.2.2, by show (0 : Int) ≤ 0; omega, by show (0 : Int) ≤ 100; omega⟩
        have hpn := ppin_any w4 _ _ 0 _ _ k4 HK4.out (j : Int)
        rw [apr_pin HTH.out.pos.1] at hpn
        have HU4 : Hid (UpdS (fun i => i = (M.getD j PS.zero).P ∨ i = (M.getD j PS.zero).b) wr w4) := u4
        clear hld k4 u4
        go_wp2_with fail
        refine hpn.mono ?_
        rintro e w5 ⟨rfl, k5, u5⟩
        have HN : Hid (ApSt w w5 N B A q (M.set j ⟨(M.getD j PS.zero).P, (M.getD j PS.zero).b, ((M.getD j PS.zero).L.set 0 ⟨true, false, false, 0, j, bs⟩).set 0 (fr15 j bs), (M.getD j PS.zero).h⟩) (.slice ap 32 cp) bs ∧
            (∀ i, i < (M.set j ⟨(M.getD j PS.zero).P, (M.getD j PS.zero).b, ((M.getD j PS.zero).L.set 0 ⟨true, false, false, 0, j, bs⟩).set 0 (fr15 j bs), (M.getD j PS.zero).h⟩).length → i < j + 1 → ((M.set j ⟨(M.getD j PS.zero).P, (M.getD j PS.zero).b, ((M.getD j PS.zero).L.set 0 ⟨true, false, false, 0, j, bs⟩).set 0 (fr15 j bs), (M.getD j PS.zero).h⟩).getD i PS.zero).L.getD 0 FS.empty = fr15 i bs) ∧
            ∀ i, i < (M.set j ⟨(M.getD j PS.zero).P, (M.getD j PS.zero).b, ((M.getD j PS.zero).L.set 0 ⟨true, false, false, 0, j, bs⟩).set 0 (fr15 j bs), (M.getD j PS.zero).h⟩).length → j + 1 ≤ i → ((M.set j ⟨(M.getD j PS.zero).P, (M.getD j PS.zero).b, ((M.getD j PS.zero).L.set 0 ⟨true, false, false, 0, j, bs⟩).set 0 (fr15 j bs), (M.getD j PS.zero).h⟩).getD i PS.zero).L = List.replicate ((M.set j ⟨(M.getD j PS.zero).P, (M.getD j PS.zero).b, ((M.getD j PS.zero).L.set 0 ⟨true, false, false, 0, j, bs⟩).set 0 (fr15 j bs), (M.getD j PS.zero).h⟩).getD i PS.zero).L.length FS.empty) := by
          refine ⟨HS.out.1.turn HB.out.1 HJM.out k5 (HK4.out.set (fr15_ok HB.out.2.1 HB.out.2.2)) (by simp) (HU4.out.trans u5), fun i hi hij => ?_, fun i hi hij => ?_⟩
          · rw [List.length_set] at hi
            rw [getD_set hi]
            by_cases e : j = i
            · subst e
              rw [if_pos rfl]
              exact (getD_set (by rw [List.length_set]; exact HTH.out.pos.1)).trans (if_pos rfl)
            · rw [if_neg e]; exact HS.out.2.1 i hi (by omega)
          · rw [List.length_set] at hi
            rw [getD_set hi, if_neg (by omega)]; exact HS.out.2.2 i hi (by omega)
        generalize M.set j ⟨(M.getD j PS.zero).P, (M.getD j PS.zero).b, ((M.getD j PS.zero).L.set 0 ⟨true, false, false, 0, j, bs⟩).set 0 (fr15 j bs), (M.getD j PS.zero).h⟩ = M' at HN
        clear hpn k5 u5
        go_wp2
        go_roundg (q.length - (j + 1))
        case measure => have := HG.out; have := HJ.out; omega
        case rel => exact ⟨j + 1, M', rfl, by have := HJ.out; omega, by go_num, HN.out⟩
      · have hge : ¬ (j : Int) < (q.length : Int) := by omega
        obtain rfl : q.length = j := by omega
        have HE0 : Hid (ApSt w wr N B A q M (.slice ap 32 cp) bs ∧ ∀ i, i < M.length → (M.getD i PS.zero).L.getD 0 FS.empty = fr15 i bs) := ⟨HS.out.1, fun i hi => HS.out.2.1 i hi (by rw [← HS.out.1.2.2.1]; exact hi)⟩
        have hae := around_any ii q.length wr HII.out (by have := HQ.out.2; omega) (by have := HQ.out.2; omega)
        have hab := around_bd ii (q.length : Int) (by have := HQ.out.2; omega)
        obtain ⟨x, hx⟩ : ∃ x : Nat, around ii (q.length : Int) = x := ⟨(around ii (q.length : Int)).toNat, by omega⟩
        rw [hx] at hae hab
        have HX : Hid (x < q.length) := by show x < q.length; omega
        have hxM : x < M.length := by rw [HE0.out.1.2.2.1]; exact HX.out
        have HXM : Hid (x < M.length) := hxM
        have hpt := part_yes _ wr A M HE0.out.1.1 x hxM
        have hth := HE0.out.1.1.row.1 x hxM
        have HTH : Hid (PS.There wr (M.getD x PS.zero)) := hth
        obtain ⟨s, hs⟩ : ∃ s, M.getD x PS.zero = s := ⟨_, rfl⟩
        rw [hs] at hpt hth HTH
        have HSS : Hid (M.getD x PS.zero = s) := hs
        have HOK : Hid (∀ (w' : World) (L' : List FS) (h' : Nat), PtO w' s.P s.b 0 L' h' → PtOk L' h' → L'.length = s.L.length → UpdS (fun i => i = s.P ∨ i = s.b) wr w' → ∃ M', ApSt w w' N B A q M' (.slice ap 32 cp) bs ∧ ∀ i, i < M'.length → i ≠ x → (M'.getD i PS.zero).L.getD 0 FS.empty = fr15 i bs) := fun w' L' h' hp hk hl hu => by
          refine ⟨_, HE0.out.1.turn HB.out.1 hxM (by rw [hs]; exact hp) hk (by rw [hs]; exact hl) (by rw [hs]; exact hu), fun i hi hix => ?_⟩
          rw [List.length_set] at hi
          rw [getD_set hi, if_neg (fun e => hix e.symm)]
          exact HE0.out.2 i hi
        clear hx hab hxM hs hlt hj2 HG HS HNW
        go_wp2_with fail
        refine hae.mono ?_
        rintro e w4 ⟨rfl, rfl⟩
        clear hae
        go_wp2_with fail
        refine hpt.mono ?_
        rintro e w4 ⟨rfl, rfl⟩
        clear hpt
        cases cl with
        | true =>
          have hcl := clear_any wr s.P s.b 0 s.L s.h hth.1 hth.pos.1
          clear hth
          go_wp2_with fail
          refine hcl.mono ?_
          rintro e w5 ⟨rfl, k5, u5⟩
          obtain ⟨ME, hME⟩ := HOK.out w5 _ _ k5 (repl_ok HTH.out.pos.1 HTH.out.pos.2) List.length_replicate u5
          have HE : Hid (ApSt w w5 N B A q ME (.slice ap 32 cp) bs ∧ ∀ i, i < ME.length → i ≠ x → (ME.getD i PS.zero).L.getD 0 FS.empty = fr15 i bs) := hME
          clear hcl k5 u5 hME HOK HTH HE0
          have hae := around_any kk q.length w5 HKK.out (by have := HQ.out.2; omega) (by have := HQ.out.2; omega)
          have hab := around_bd kk (q.length : Int) (by have := HQ.out.2; omega)
          obtain ⟨y, hy⟩ : ∃ y : Nat, around kk (q.length : Int) = y := ⟨(around kk (q.length : Int)).toNat, by omega⟩
          rw [hy] at hae hab
          have HY : Hid (y < q.length) := by show y < q.length; omega
          clear hy hab
          go_wp2_with fail
          refine hae.mono ?_
          rintro e w20 ⟨rfl, rfl⟩
          clear hae
          by_cases hxy : x = y
          · have hxy1 : ((x : Int) == (y : Int)) = true := by rw [beq_iff_eq]; omega
            have hxy2 : (x : Int) = (y : Int) := by omega
            have hlv := alives_any w5
            have HG9 : Hid (Grow w w5) := HE.out.1.2.2.2.2.2
            clear hxy hxy2
            go_wp2_with fail
            refine hlv.mono ?_
            rintro e w21 ⟨rfl, g21⟩
            have HG10 : Hid (Grow w w21) := HG9.out.trans g21
            clear hlv g21
            go_wp2
            go_ret
            exact ⟨rfl, HG10.out⟩
          · have hxy1 : ((x : Int) == (y : Int)) = false := by rw [beq_eq_false_iff_ne]; omega
            have hxy2 : ¬ (x : Int) = (y : Int) := by omega
            have hyM : y < ME.length := by rw [HE.out.1.2.2.1]; exact HY.out
            have hpt := part_yes _ w5 A ME HE.out.1.1 y hyM
            have hth := HE.out.1.1.row.1 y hyM
            have hat := at_any w5 _ _ 0 _ _ hth.1 hth.2.2.2 0
            have hfr : atL 0 (ME.getD y PS.zero).L = fr15 y bs := by
              have e1 : atL 0 (ME.getD y PS.zero).L = (ME.getD y PS.zero).L.getD 0 FS.empty := atL_yes (m := 0) hth.pos.1
              rw [e1]; exact HE.out.2 y hyM (fun e => hxy e.symm)
            rw [hfr] at hat
            simp only [FS.arr] at hat
            obtain ⟨CL, hAR⟩ : ∃ CL, (fr15 y bs).cells = CL := ⟨_, rfl⟩
            rw [hAR] at hat
            have HAR : Hid ((fr15 y bs).cells = CL) := hAR
            clear hfr hth hxy hyM hAR
            go_wp2_with fail
            refine hpt.mono ?_
            rintro e w21 ⟨rfl, rfl⟩
            clear hpt
            go_wp2_with fail
            refine hat.mono ?_
            rintro e w22 ⟨rfl, hsl, g22⟩
            have hst := put37_15 w22 (fr15 y bs) hsl
            have hl37 := FS.cells_len hsl
            have hfx := put37_at15 w22 (fr15 y bs) hsl
            rw [← zeroF_lit] at hst hfx
            rw [HAR.out] at hst hfx hl37
            have HST : Hid (ApSt w w22 N B A q ME (.slice ap 32 cp) bs) := HE.out.1.grow g22
            clear hat g22
            go_upto_region 25 with fail
            generalize (w22.alloc (.cells #[.bool false, .bool false, .bool false, .int .i64 0, .int .i64 0, .int .u8 0, .int .u8 0, .int .u8 0, .int .u8 0, .int .u8 0, .int .u8 0, .int .u8 0, .int .u8 0, .int .u8 0, .int .u8 0, .int .u8 0, .int .u8 0, .int .u8 0, .int .u8 0, .int .u8 0, .int .u8 0, .int .u8 0, .int .u8 0, .int .u8 0, .int .u8 0, .int .u8 0, .int .u8 0, .int .u8 0, .int .u8 0, .int .u8 0, .int .u8 0, .int .u8 0, .int .u8 0, .int .u8 0, .int .u8 0, .int .u8 0, .int .u8 0] 52)).setCells w22.heap.size 0 CL = w23 at hfx ⊢
            generalize w22.heap.size = X at hfx ⊢
            have gd : Grow w23 w23.drew := (Grow.refl w23).drew
            have HR : Hid (∀ w', Grow w23.drew w' → w'.rangeAt X 0 (fr15 y bs).cells) := fun w' g => FrX.range (s := fr15 y bs) (FrO.grow (FrO.grow hfx.1 gd) g)
            have kc : ∀ w', Grow w23.drew w' → (convert 42 9 (.slice ap 32 cp)).run Try.prog w' = .ok (.string (strOfNums bs)) w' := fun w' g => (((HST.out.2.2.2.1.grow hfx.2).grow gd).grow g).i.string 42 9 5 Try.underlying42 Try.underlying5 Try.underlying9
            have hA : Calls Try.prog 31 #[.agg CL.toArray] w23.drew fun e w' => e = .returned (.agg #[.bool true, .bool false, .bool true, .int .i64 1, .int .i64 y, .string (strOfNums bs)]) ∧ Grow w23.drew w' := by
              rw [← HAR.out]; exact as15_any w23.drew (fr15 y bs) hsl
            have hq9 : ∀ w', (binOp .eql 55 (.agg #[.bool true, .bool false, .bool true, .int .i64 1, .int .i64 y, .string (strOfNums bs)]) (.agg #[.bool true, .bool false, .bool true, .int .i64 1, .int .i64 y, .string (strOfNums bs)])).run Try.prog w' = .ok (.bool true) w' := fun w' => eql_self15 w' (fr15 y bs)
            have HGD : Hid (Grow w w23.drew) := (HST.out.2.2.2.2.2.trans hfx.2).trans gd
            have HSL : Hid ((fr15 y bs).bs.length = 32) := hsl
            clear hst hl37 hfx gd HST hsl
            refine wp_region_sched (by kernel_rfl) [(0, false), (2, false), (3, false), (4, false), (5, false), (1, true), (6, false), (7, false), (8, true), (9, false), (10, false)] (by kernel_rfl) (by kernel_rfl) rfl (fun _ _ d _ _ h => by cases d <;> exact h) ?_
            simp only [inOrder, List.filterMap_cons, List.filterMap_nil, List.getElem?_toArray, List.getElem?_cons_zero, List.getElem?_cons_succ, Option.map_some]
            refine ⟨.agg CL.toArray, ?_, ?_⟩
            · rw [← HAR.out]
              exact yieldsIf_load_mid rfl 52 (.tmp 20) rfl X 0 rfl (fr15 y bs).cells _ HR.out Try.underlying52 rfl (info37 HSL.out)
            simp only [Act.put, List.setIfInBounds_toArray, List.set_cons_zero, List.set_cons_succ]
            repeat (first
              | (refine wpS_move rfl ?_; simp only [Act.eval, Act.put, Array.getD_eq_getD_getElem?, List.getElem?_toArray, List.getElem?_cons_zero, List.getElem?_cons_succ, Option.getD_some, List.setIfInBounds_toArray, List.set_cons_zero, List.set_cons_succ])
              | (refine wpS_assign rfl ?_; simp only [Act.eval, Act.put, Array.getD_eq_getD_getElem?, List.getElem?_toArray, List.getElem?_cons_zero, List.getElem?_cons_succ, Option.getD_some, List.setIfInBounds_toArray, List.set_cons_zero, List.set_cons_succ])
              | (refine wpS_read (v := ?_) rfl ?_ ?_; rotate_left; (focus (intro w' hG; have q6 := kc w' hG; go_simp; try (with_reducible rfl))); simp only [Act.put, List.setIfInBounds_toArray, List.set_cons_zero, List.set_cons_succ])
              | (refine wpS_skip rfl ?_; simp only [Act.put, List.setIfInBounds_toArray, List.set_cons_zero, List.set_cons_succ]))
            refine wpS_call (f := ?_) (args := ?_) (by rfl) ?_ ?_
            rotate_left 2; focus (go_simp; constructor <;> with_reducible rfl)
            refine (hA).mono ?_
            rintro e w24 ⟨rfl, g24⟩
            refine ⟨_, rfl, g24, ?_⟩
            simp only [Act.put, List.setIfInBounds_toArray, List.set_cons_zero, List.set_cons_succ]
            refine wpS_read (v := .bool true) rfl (fun w' hG => exec_bin15 rfl rfl rfl (guard_eql15 w' _ _ _ _) (hq9 w')) ?_
            simp only [Act.put, List.setIfInBounds_toArray, List.set_cons_zero, List.set_cons_succ]
            repeat (first
              | (refine wpS_move rfl ?_; simp only [Act.eval, Act.put, Array.getD_eq_getD_getElem?, List.getElem?_toArray, List.getElem?_cons_zero, List.getElem?_cons_succ, Option.getD_some, List.setIfInBounds_toArray, List.set_cons_zero, List.set_cons_succ])
              | (refine wpS_assign rfl ?_; simp only [Act.eval, Act.put, Array.getD_eq_getD_getElem?, List.getElem?_toArray, List.getElem?_cons_zero, List.getElem?_cons_succ, Option.getD_some, List.setIfInBounds_toArray, List.set_cons_zero, List.set_cons_succ])
              | (refine wpS_read (v := ?_) rfl ?_ ?_; rotate_left; (focus (intro w' hG; go_simp; try (with_reducible rfl))); simp only [Act.put, List.setIfInBounds_toArray, List.set_cons_zero, List.set_cons_succ])
              | (refine wpS_skip rfl ?_; simp only [Act.put, List.setIfInBounds_toArray, List.set_cons_zero, List.set_cons_succ]))
            refine wpS_call (f := ?_) (args := ?_) (by rfl) ?_ ?_
            rotate_left 2; focus (go_simp; constructor <;> with_reducible rfl)
            refine ((alives_any w24)).mono ?_
            rintro e w25 ⟨rfl, g25⟩
            refine ⟨_, rfl, g25, ?_⟩
            simp only [Act.put, List.setIfInBounds_toArray, List.set_cons_zero, List.set_cons_succ]
            repeat (first
              | (refine wpS_move rfl ?_; simp only [Act.eval, Act.put, Array.getD_eq_getD_getElem?, List.getElem?_toArray, List.getElem?_cons_zero, List.getElem?_cons_succ, Option.getD_some, List.setIfInBounds_toArray, List.set_cons_zero, List.set_cons_succ])
              | (refine wpS_assign rfl ?_; simp only [Act.eval, Act.put, Array.getD_eq_getD_getElem?, List.getElem?_toArray, List.getElem?_cons_zero, List.getElem?_cons_succ, Option.getD_some, List.setIfInBounds_toArray, List.set_cons_zero, List.set_cons_succ])
              | (refine wpS_read (v := ?_) rfl ?_ ?_; rotate_left; (focus (intro w' hG; go_simp; try (with_reducible rfl))); simp only [Act.put, List.setIfInBounds_toArray, List.set_cons_zero, List.set_cons_succ])
              | (refine wpS_skip rfl ?_; simp only [Act.put, List.setIfInBounds_toArray, List.set_cons_zero, List.set_cons_succ]))
            refine wpS_nil ?_
            have HFN : Hid (Grow w w25) := HGD.out.trans (g24.trans g25)
            clear kc hA hq9 g24 g25
            go_wp2
            go_ret
            exact ⟨rfl, HFN.out⟩
        | false =>
          have hrow : RdV (Value.int .u8) 0 (fun i => wr.heap.size ≤ i) (wr.alloc (.cells #[.int .u8 1, .int .u8 2, .int .u8 3] 5)) (.slice (some ⟨wr.heap.size, 0, none⟩) 3 3) [1, 2, 3] := (own_row .u8 [1, 2, 3] 5 wr wr.heap.size (Nat.le_refl _) (by simp)).v.rd
          have hpp := pput_any (wr.alloc (.cells #[.int .u8 1, .int .u8 2, .int .u8 3] 5)) s.P s.b 0 s.L s.h (hth.1.grow ((Grow.refl wr).alloc _)) hth.2 (x : Int) 0 _ [1, 2, 3] _ (by decide) hrow
          have HG5 : Hid (Grow wr (wr.alloc (.cells #[.int .u8 1, .int .u8 2, .int .u8 3] 5))) := (Grow.refl wr).alloc _
          have hon := onP_all15 (q := (x : Int)) (f := fun s => putS s 0 [1, 2, 3]) hth.2 (fun s hs => putS_ok hs 0 oct3)
          generalize onP (x : Int) (fun s => putS s 0 [1, 2, 3]) s.L = R1 at hpp hon
          obtain ⟨L1, E1⟩ := R1
          have HO1 : Hid (PtOk L1 s.h ∧ L1.length = s.L.length) := hon
          clear hth hrow hon
          go_wp2_with fail
          refine hpp.mono ?_
          rintro e w5 ⟨rfl, k5, u5⟩
          have hup := punpin_any w5 s.P s.b 0 L1 s.h k5 HO1.out.1 (x : Int)
          have hon := onP_all15 (q := (x : Int)) (f := unpinS) HO1.out.1 (fun s hs => unpinS_ok hs)
          generalize onP (x : Int) unpinS L1 = R2 at hup hon
          obtain ⟨L2, E2⟩ := R2
          have HO2 : Hid (PtOk L2 s.h ∧ L2.length = s.L.length ∧ UpdS (fun i => i = s.P ∨ i = s.b) wr w5) := ⟨hon.1, hon.2.trans HO1.out.2, HG5.out.s.trans u5⟩
          clear hpp k5 u5 hon
          go_wp2_with fail
          refine hup.mono ?_
          rintro e w6 ⟨rfl, k6, u6⟩
          have hvc := victim_any w6 s.P s.b 0 L2 s.h k6 HO2.out.1
          have hva := vicL_all15 (L := L2) (h := s.h) HO2.out.1
          generalize vic (flsL L2) s.h = V1 at hvc
          generalize decide (0 < (trn (flsL L2) s.h).1) = V2 at hvc
          generalize vicL L2 s.h = L3 at hvc hva
          generalize hnd (flsL L2) s.h = h3 at hvc hva
          have HO3 : Hid (PtOk L3 h3 ∧ L3.length = s.L.length ∧ UpdS (fun i => i = s.P ∨ i = s.b) wr w6) := ⟨hva.1, hva.2.trans HO2.out.2.1, HO2.out.2.2.trans u6⟩
          clear hup k6 u6 hva
          go_wp2_with fail
          refine hvc.mono ?_
          rintro e w7 ⟨rfl, k7, u7⟩
          obtain ⟨ME, hME⟩ := HOK.out w7 _ _ k7 HO3.out.1 HO3.out.2.1 (HO3.out.2.2.trans u7)
          have HE : Hid (ApSt w w7 N B A q ME (.slice ap 32 cp) bs ∧ ∀ i, i < ME.length → i ≠ x → (ME.getD i PS.zero).L.getD 0 FS.empty = fr15 i bs) := hME
          clear hvc k7 u7 hME HOK HTH HE0
          have hae := around_any kk q.length w7 HKK.out (by have := HQ.out.2; omega) (by have := HQ.out.2; omega)
          have hab := around_bd kk (q.length : Int) (by have := HQ.out.2; omega)
          obtain ⟨y, hy⟩ : ∃ y : Nat, around kk (q.length : Int) = y := ⟨(around kk (q.length : Int)).toNat, by omega⟩
          rw [hy] at hae hab
          have HY : Hid (y < q.length) := by show y < q.length; omega
          clear hy hab
          go_wp2_with fail
          refine hae.mono ?_
          rintro e w20 ⟨rfl, rfl⟩
          clear hae
          by_cases hxy : x = y
          · have hxy1 : ((x : Int) == (y : Int)) = true := by rw [beq_iff_eq]; omega
            have hxy2 : (x : Int) = (y : Int) := by omega
            have hlv := alives_any w7
            have HG9 : Hid (Grow w w7) := HE.out.1.2.2.2.2.2
            clear hxy hxy2
            go_wp2_with fail
            refine hlv.mono ?_
            rintro e w21 ⟨rfl, g21⟩
            have HG10 : Hid (Grow w w21) := HG9.out.trans g21
            clear hlv g21
            go_wp2
            go_ret
            exact ⟨rfl, HG10.out⟩
          · have hxy1 : ((x : Int) == (y : Int)) = false := by rw [beq_eq_false_iff_ne]; omega
            have hxy2 : ¬ (x : Int) = (y : Int) := by omega
            have hyM : y < ME.length := by rw [HE.out.1.2.2.1]; exact HY.out
            have hpt := part_yes _ w7 A ME HE.out.1.1 y hyM
            have hth := HE.out.1.1.row.1 y hyM
            have hat := at_any w7 _ _ 0 _ _ hth.1 hth.2.2.2 0
            have hfr : atL 0 (ME.getD y PS.zero).L = fr15 y bs := by
              have e1 : atL 0 (ME.getD y PS.zero).L = (ME.getD y PS.zero).L.getD 0 FS.empty := atL_yes (m := 0) hth.pos.1
              rw [e1]; exact HE.out.2 y hyM (fun e => hxy e.symm)
            rw [hfr] at hat
            simp only [FS.arr] at hat
            obtain ⟨CL, hAR⟩ : ∃ CL, (fr15 y bs).cells = CL := ⟨_, rfl⟩
            rw [hAR] at hat
            have HAR : Hid ((fr15 y bs).cells = CL) := hAR
            clear hfr hth hxy hyM hAR
            go_wp2_with fail
            refine hpt.mono ?_
            rintro e w21 ⟨rfl, rfl⟩
            clear hpt
            go_wp2_with fail
            refine hat.mono ?_
            rintro e w22 ⟨rfl, hsl, g22⟩
            have hst := put37_15 w22 (fr15 y bs) hsl
            have hl37 := FS.cells_len hsl
            have hfx := put37_at15 w22 (fr15 y bs) hsl
            rw [← zeroF_lit] at hst hfx
            rw [HAR.out] at hst hfx hl37
            have HST : Hid (ApSt w w22 N B A q ME (.slice ap 32 cp) bs) := HE.out.1.grow g22
            clear hat g22
            go_upto_region 25 with fail
            generalize (w22.alloc (.cells #[.bool false, .bool false, .bool false, .int .i64 0, .int .i64 0, .int .u8 0, .int .u8 0, .int .u8 0, .int .u8 0, .int .u8 0, .int .u8 0, .int .u8 0, .int .u8 0, .int .u8 0, .int .u8 0, .int .u8 0, .int .u8 0, .int .u8 0, .int .u8 0, .int .u8 0, .int .u8 0, .int .u8 0, .int .u8 0, .int .u8 0, .int .u8 0, .int .u8 0, .int .u8 0, .int .u8 0, .int .u8 0, .int .u8 0, .int .u8 0, .int .u8 0, .int .u8 0, .int .u8 0, .int .u8 0, .int .u8 0, .int .u8 0] 52)).setCells w22.heap.size 0 CL = w23 at hfx ⊢
            generalize w22.heap.size = X at hfx ⊢
            have gd : Grow w23 w23.drew := (Grow.refl w23).drew
            have HR : Hid (∀ w', Grow w23.drew w' → w'.rangeAt X 0 (fr15 y bs).cells) := fun w' g => FrX.range (s := fr15 y bs) (FrO.grow (FrO.grow hfx.1 gd) g)
            have kc : ∀ w', Grow w23.drew w' → (convert 42 9 (.slice ap 32 cp)).run Try.prog w' = .ok (.string (strOfNums bs)) w' := fun w' g => (((HST.out.2.2.2.1.grow hfx.2).grow gd).grow g).i.string 42 9 5 Try.underlying42 Try.underlying5 Try.underlying9
            have hA : Calls Try.prog 31 #[.agg CL.toArray] w23.drew fun e w' => e = .returned (.agg #[.bool true, .bool false, .bool true, .int .i64 1, .int .i64 y, .string (strOfNums bs)]) ∧ Grow w23.drew w' := by
              rw [← HAR.out]; exact as15_any w23.drew (fr15 y bs) hsl
            have hq9 : ∀ w', (binOp .eql 55 (.agg #[.bool true, .bool false, .bool true, .int .i64 1, .int .i64 y, .string (strOfNums bs)]) (.agg #[.bool true, .bool false, .bool true, .int .i64 1, .int .i64 y, .string (strOfNums bs)])).run Try.prog w' = .ok (.bool true) w' := fun w' => eql_self15 w' (fr15 y bs)
            have HGD : Hid (Grow w w23.drew) := (HST.out.2.2.2.2.2.trans hfx.2).trans gd
            have HSL : Hid ((fr15 y bs).bs.length = 32) := hsl
            clear hst hl37 hfx gd HST hsl
            refine wp_region_sched (by kernel_rfl) [(0, false), (2, false), (3, false), (4, false), (5, false), (1, true), (6, false), (7, false), (8, true), (9, false), (10, false)] (by kernel_rfl) (by kernel_rfl) rfl (fun _ _ d _ _ h => by cases d <;> exact h) ?_
            simp only [inOrder, List.filterMap_cons, List.filterMap_nil, List.getElem?_toArray, List.getElem?_cons_zero, List.getElem?_cons_succ, Option.map_some]
            refine ⟨.agg CL.toArray, ?_, ?_⟩
            · rw [← HAR.out]
              exact yieldsIf_load_mid rfl 52 (.tmp 20) rfl X 0 rfl (fr15 y bs).cells _ HR.out Try.underlying52 rfl (info37 HSL.out)
            simp only [Act.put, List.setIfInBounds_toArray, List.set_cons_zero, List.set_cons_succ]
            repeat (first
              | (refine wpS_move rfl ?_; simp only [Act.eval, Act.put, Array.getD_eq_getD_getElem?, List.getElem?_toArray, List.getElem?_cons_zero, List.getElem?_cons_succ, Option.getD_some, List.setIfInBounds_toArray, List.set_cons_zero, List.set_cons_succ])
              | (refine wpS_assign rfl ?_; simp only [Act.eval, Act.put, Array.getD_eq_getD_getElem?, List.getElem?_toArray, List.getElem?_cons_zero, List.getElem?_cons_succ, Option.getD_some, List.setIfInBounds_toArray, List.set_cons_zero, List.set_cons_succ])
              | (refine wpS_read (v := ?_) rfl ?_ ?_; rotate_left; (focus (intro w' hG; have q6 := kc w' hG; go_simp; try (with_reducible rfl))); simp only [Act.put, List.setIfInBounds_toArray, List.set_cons_zero, List.set_cons_succ])
              | (refine wpS_skip rfl ?_; simp only [Act.put, List.setIfInBounds_toArray, List.set_cons_zero, List.set_cons_succ]))
            refine wpS_call (f := ?_) (args := ?_) (by rfl) ?_ ?_
            rotate_left 2; focus (go_simp; constructor <;> with_reducible rfl)
            refine (hA).mono ?_
            rintro e w24 ⟨rfl, g24⟩
            refine ⟨_, rfl, g24, ?_⟩
            simp only [Act.put, List.setIfInBounds_toArray, List.set_cons_zero, List.set_cons_succ]
            refine wpS_read (v := .bool true) rfl (fun w' hG => exec_bin15 rfl rfl rfl (guard_eql15 w' _ _ _ _) (hq9 w')) ?_
            simp only [Act.put, List.setIfInBounds_toArray, List.set_cons_zero, List.set_cons_succ]
            repeat (first
              | (refine wpS_move rfl ?_; simp only [Act.eval, Act.put, Array.getD_eq_getD_getElem?, List.getElem?_toArray, List.getElem?_cons_zero, List.getElem?_cons_succ, Option.getD_some, List.setIfInBounds_toArray, List.set_cons_zero, List.set_cons_succ])
              | (refine wpS_assign rfl ?_; simp only [Act.eval, Act.put, Array.getD_eq_getD_getElem?, List.getElem?_toArray, List.getElem?_cons_zero, List.getElem?_cons_succ, Option.getD_some, List.setIfInBounds_toArray, List.set_cons_zero, List.set_cons_succ])
              | (refine wpS_read (v := ?_) rfl ?_ ?_; rotate_left; (focus (intro w' hG; go_simp; try (with_reducible rfl))); simp only [Act.put, List.setIfInBounds_toArray, List.set_cons_zero, List.set_cons_succ])
              | (refine wpS_skip rfl ?_; simp only [Act.put, List.setIfInBounds_toArray, List.set_cons_zero, List.set_cons_succ]))
            refine wpS_call (f := ?_) (args := ?_) (by rfl) ?_ ?_
            rotate_left 2; focus (go_simp; constructor <;> with_reducible rfl)
            refine ((alives_any w24)).mono ?_
            rintro e w25 ⟨rfl, g25⟩
            refine ⟨_, rfl, g25, ?_⟩
            simp only [Act.put, List.setIfInBounds_toArray, List.set_cons_zero, List.set_cons_succ]
            repeat (first
              | (refine wpS_move rfl ?_; simp only [Act.eval, Act.put, Array.getD_eq_getD_getElem?, List.getElem?_toArray, List.getElem?_cons_zero, List.getElem?_cons_succ, Option.getD_some, List.setIfInBounds_toArray, List.set_cons_zero, List.set_cons_succ])
              | (refine wpS_assign rfl ?_; simp only [Act.eval, Act.put, Array.getD_eq_getD_getElem?, List.getElem?_toArray, List.getElem?_cons_zero, List.getElem?_cons_succ, Option.getD_some, List.setIfInBounds_toArray, List.set_cons_zero, List.set_cons_succ])
              | (refine wpS_read (v := ?_) rfl ?_ ?_; rotate_left; (focus (intro w' hG; go_simp; try (with_reducible rfl))); simp only [Act.put, List.setIfInBounds_toArray, List.set_cons_zero, List.set_cons_succ])
              | (refine wpS_skip rfl ?_; simp only [Act.put, List.setIfInBounds_toArray, List.set_cons_zero, List.set_cons_succ]))
            refine wpS_nil ?_
            have HFN : Hid (Grow w w25) := HGD.out.trans (g24.trans g25)
            clear kc hA hq9 g24 g25
            go_wp2
            go_ret
            exact ⟨rfl, HFN.out⟩
  · exact absurd HQ.out.1 hno
end Go.Proofs.Ytgpigllimoafaaa
