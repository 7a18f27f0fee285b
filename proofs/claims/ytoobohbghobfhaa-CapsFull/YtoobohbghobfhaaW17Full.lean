/-
  The walk of CapsFull. Conditions: the theorem's own.
-/
import Derived.Test.YtoobohbghobfhaaCapW
import Derived.Deep.CutRange
namespace Go.Proofs.Ytoobohbghobfhaa
open Go.RowKit
set_option linter.unusedVariables false
set_option linter.unusedSimpArgs false

set_option maxRecDepth 8000 in
set_option maxHeartbeats 8000000 in
theorem capsFull_walk (m0 k0 : Int) (w : World) (hm : (Lit.int .i64 m0).wf = true) (hk : (Lit.int .i64 k0).wf = true) :
    Calls Try.prog 8 #[.int .i64 m0, .int .i64 k0] w fun e w' => e = .returned (.bool true) ∧ Grow w w' := by
  obtain ⟨i0, hi, hz0, hz1, hz2⟩ := info_parts infoC
  have h1 := new_in 4 w (by omega) (by omega)
  obtain ⟨b, hb⟩ : ∃ b, b = w.heap.size := ⟨_, rfl⟩
  have HB : Hid (b = w.heap.size) := hb
  rw [← hb] at h1
  clear hb
  have HP0 := hid (LwP.new (k := 4) (by omega) (by omega))
  have har := fun u => around_any m0 11 u hm (by omega) (by omega)
  have hbd := around_bd m0 11 (by omega)
  generalize around m0 11 = n0 at har hbd
  obtain ⟨N, rfl⟩ := Int.eq_ofNat_of_zero_le hbd.1
  have hN : N ≤ 10 := by omega
  have HN : Hid (N ≤ 10) := hN
  have HA7 := hid (fun u => around_any k0 7 u hk (by omega) (by omega))
  have hb7 := around_bd k0 7 (by omega)
  generalize around k0 7 = q0 at HA7 hb7
  obtain ⟨q, rfl⟩ := Int.eq_ofNat_of_zero_le hb7.1
  have HQ : Hid (q < 7) := by show q < 7; omega
  clear hbd hb7 hm hk hN
  go_enter Try.func8, Try.ntmps8
  go_wp2_with fail
  refine h1.mono ?_
  rintro e w1 ⟨rfl, t1, g1⟩
  have HM : Hid (LwM w w1 b (newS 4) 4 1 (.slice none 0 0) []) := ⟨t1, OwnS.nil _ _ _ _ _, g1, by have := HB.out; omega⟩
  clear h1 t1 g1
  go_wp2_with fail
  refine (har w1).mono ?_
  rintro e w2 ⟨rfl, rfl⟩
  clear har
  go_wp2
  go_loopg [8, 9] N (fun m v i wr => ∃ (j : Nat) (S : List Sl) (L : List Cp), m = N - j ∧ j ≤ N ∧ i = .int .i64 j ∧ Hid (L.length = min j 7 ∧ LwP S 4 ((L.length : Int) + 1) L ∧ LwM w wr b S 4 ((L.length : Int) + 1) v L))
  case atStart => exact ⟨0, newS 4, [], rfl, Nat.zero_le _, rfl, rfl, HP0.out, HM.out⟩
  case round =>
    clear HM HP0
    obtain ⟨j, S, L, hk, hj, rfl, HX⟩ := hrel
    by_cases hlt : j < N
    · have hlt' : (j : Int) < (N : Int) := by omega
      have HJ : Hid (j < N ∧ gk = N - j) := ⟨hlt, hk⟩
      have kr := rootR_any b S 4 _ wr HX.out.2.2.1 HX.out.2.1.1.1
      simp only [show (4 : Int) * 1048576 = 4194304 from rfl] at kr
      by_cases h7 : j < 7
      · have h7' : (j : Int) < 7 := by omega
        have hL : L.length = j := by have := HX.out.1; omega
        have HL : Hid (L.length = j ∧ j < 7) := ⟨hL, h7⟩
        have hlt8 := HX.out.2.1.lt (by omega)
        have HK := hid (fun u hu => mintR_any b S 4 _ 1 u hu HX.out.2.1.1 hlt8.1 hlt8.2 (by omega))
        have HN2 := hid (HX.out.2.1.mint (by omega) (show 1 < 16 by omega))
        simp only [show (4 : Int) * 1048576 = 4194304 from rfl] at HK HN2
        generalize hgg : (4194304 : Int) + ((L.length : Int) + 1) = gg at HK HN2
        generalize hmm : roomN S = m at HK HN2
        generalize minted S 4 ((L.length : Int) + 1) 1 = S' at HK HN2
        clear hgg hmm hlt8 hk hj hlt h7 hL
        go_wp2_with fail
        refine kr.mono ?_
        rintro e w2 ⟨rfl, g2⟩
        have H2 := hid (HX.out.2.2.grow g2)
        have km := HK.out w2 H2.out.1
        clear kr g2 HK
        go_wp2_with fail
        refine km.mono ?_
        rintro e w3 ⟨rfl, t3, u3⟩
        have H3 := hid (H2.out.turn t3 u3)
        obtain ⟨hv4, hm4, hb4⟩ := H3.out.var m gg
        obtain ⟨b10, hb10⟩ : ∃ b10, b10 = w3.heap.size := ⟨_, rfl⟩
        obtain ⟨W4, hW4⟩ : ∃ W4, W4 = w3.alloc (.cells #[.int .i64 m, .int .i64 gg] 33) := ⟨_, rfl⟩
        rw [← hW4, ← hb10] at hv4
        rw [← hW4] at hm4
        have H4 := hid hm4
        have HV := hid hv4
        obtain ⟨⟨n0, n1⟩, -⟩ := hv4.two
        clear km t3 u3 H2 H3 hv4 hm4 hb4
        have ho := H4.out.2.1.grow ((Grow.refl W4).alloc (.cells #[.int .i64 m, .int .i64 gg] 33))
        have hl7 : L.length < 7 := by have := HL.out; omega
        obtain ⟨av, cv, hsh⟩ := ho.shape
        subst hsh
        go_upto_region 10 with fail
        rw [← hW4, ← hb10]
        clear hW4 hb10
        go_wp2_with (at_builtin; refine wpList_appS (f := Cp.cs) (k := 2) rfl (.tmp 57) (.tmp 59) 35 35 rfl cpk (by omega) i0 (.agg #[.int .i64 0, .int .i64 0]) 16 Try.underlying35 hi hz0 hz1 hz2 rfl rfl rfl ho (src_oneC W4 m gg) (by simp only [maxLen, List.length_singleton]; omega) (by simp only [List.length_singleton]; omega) ?_)
        intro v' w' ho' hu'
        have HF : Hid ((L ++ [(⟨m, gg⟩ : Cp)]).length = min (j + 1) 7 ∧ LwP S' 4 (((L ++ [(⟨m, gg⟩ : Cp)]).length : Int) + 1) (L ++ [⟨m, gg⟩]) ∧ LwM w w' b S' 4 (((L ++ [(⟨m, gg⟩ : Cp)]).length : Int) + 1) v' (L ++ [⟨m, gg⟩])) := by
          have el : (L ++ [(⟨m, gg⟩ : Cp)]).length = L.length + 1 := by rw [List.length_append]; rfl
          have ei : (((L ++ [(⟨m, gg⟩ : Cp)]).length : Nat) : Int) + 1 = (L.length : Int) + 1 + 1 := by rw [el]; omega
          refine ⟨by rw [el]; have := HL.out; omega, by rw [ei]; exact HN2.out, by rw [ei]; exact H4.out.app ho' hu'⟩
        clear ho' hu' ho n0 n1 H4 HV hl7
        go_wp2
        go_roundg (N - (j + 1))
        case measure => have := HJ.out; omega
        case rel => exact ⟨j + 1, S', L ++ [(⟨m, gg⟩ : Cp)], rfl, HJ.out.1, by go_num, HF⟩
      · have h7' : ¬ (j : Int) < 7 := by omega
        have hL : L.length = 7 := by have := HX.out.1; omega
        have HL : Hid (L.length = 7 ∧ 7 ≤ j) := ⟨hL, by omega⟩
        have hw1 : IntKind.i64.wrap ((j : Int) + 1) = ((j + 1 : Nat) : Int) := by rw [IntKind.wrap_i64]; have := HN.out; omega
        have HK := hid (fun u hu => mintR_full b S 4 _ 1 u hu HX.out.2.1.1 (by rw [HX.out.2.1.2.1]; omega) (by omega))
        simp only [show (4 : Int) * 1048576 = 4194304 from rfl] at HK
        clear hk hj hlt h7 hL
        go_wp2_with fail
        refine kr.mono ?_
        rintro e w2 ⟨rfl, g2⟩
        have H2 := hid (HX.out.2.2.grow g2)
        have km := HK.out w2 H2.out.1
        clear kr g2 HK
        go_wp2_with fail
        refine km.mono ?_
        rintro e w3 ⟨rfl, g3⟩
        have H3 := hid ((H2.out.grow g3).grow ((Grow.refl w3).alloc (.cells #[.int .i64 0, .int .i64 0] 33)))
        clear km g3 H2
        go_wp2
        go_roundg (N - (j + 1))
        case measure => have := HJ.out; omega
        case rel => exact ⟨j + 1, S, L, rfl, HJ.out.1, by first | rfl | go_num, by rw [HL.out.1]; have := HL.out.2; omega, HX.out.2.1, H3.out⟩
    · have hlt' : ¬ (j : Int) < (N : Int) := by omega
      have hjN : Hid (j = N) := by show j = N; omega
      clear hk hj hlt
      obtain ⟨av, cv, hsh⟩ := HX.out.2.2.2.1.shape
      subst hsh
      by_cases h7 : L.length < 7
      · have h7' : (L.length : Int) < 7 := by omega
        have kl := live_any b S 4 _ wr HX.out.2.2.1 HX.out.2.1.1.1.len
        rw [HX.out.2.1.2.1] at kl
        have hG : Hid (Grow w wr) := HX.out.2.2.2.2.1
        have e1 : IntKind.i64.wrap ((L.length : Int) + 1) = ((L.length + 1 : Nat) : Int) := by rw [IntKind.wrap_i64]; omega
        clear h7 HX
        generalize L.length = ll at *
        go_wp2_with fail
        refine kl.mono ?_
        rintro e w2 ⟨rfl, g2⟩
        have hG2 := hid (hG.out.trans g2)
        clear kl g2 hG
        go_wp2_with fail
        refine (lives_any w2).mono ?_
        rintro e w3 ⟨rfl, g3⟩
        go_wp2
        go_ret
        exact ⟨rfl, hG2.out.trans g3⟩
      · have h7' : ¬ (L.length : Int) < 7 := by omega
        have hL : L.length = 7 := by have := HX.out.1; omega
        have hg := (HX.out.2.1.2.2.2.1 (L.getD q Cp.zero)).2 (.inr (cp_at (by rw [hL]; exact HQ.out)))
        have hs := HX.out.2.1.2.2.2.2 (L.getD q Cp.zero) (cp_at (by rw [hL]; exact HQ.out))
        obtain ⟨g0, g8, -, -⟩ := goodB_yes hg
        have hold := (HX.out.2.1.1.1.old hg).1
        have hS8 := HX.out.2.1.1.1.len
        have hl8 : (allS S).length = 8 := by rw [HX.out.2.1.2.1]; omega
        obtain ⟨bb, oo, e1, c0, c1⟩ := rdC_at HX.out.2.2.2.1.rd (show q < L.length by rw [hL]; exact HQ.out)
        subst e1
        have HP := hid HX.out.2.1.1
        have HM := hid HX.out.2.2
        rw [hL] at hold
        have en : ((L.length : Nat) : Int) + 1 = 8 := by omega
        rw [en] at HP HM
        have hqL : (q : Int) < (L.length : Int) := by have := HQ.out; omega
        clear HX en
        generalize L.getD q Cp.zero = d at hg hs g0 g8 hold c0 c1
        obtain ⟨ds, dg⟩ := d
        simp only at hs g0 g8 hold c0 c1
        obtain ⟨i, rfl⟩ := Int.eq_ofNat_of_zero_le g0
        have hi8 : i < 8 := by omega
        have hi1 : 1 ≤ i := by omega
        obtain ⟨hR2, hl2⟩ := HP.out.cut (d := ⟨i, dg⟩) (by show (1 : Int) ≤ (i : Int); omega) hg
        have K2 : Hid (∀ u, TbAt u b S 4 8 → Calls Try.prog 15 #[.pointer (some ⟨b, 0, none⟩), .agg #[.int .i64 0, .int .i64 4194304], .agg #[.int .i64 (i : Int), .int .i64 dg]] u fun e w' => e = .returned (.int .i64 0) ∧ TbAt w' b (S.set i Sl.zero) 4 8 ∧ UpdS (fun x => x = b) u w') := fun u hu => revokeR_yes b S 4 8 ⟨i, dg⟩ u hu HP.out hg
        simp only [Int.toNat_natCast] at hR2 hl2
        have hroom := room_cleared hS8 hl8 hi8
        have K3 : Hid (∀ u, TbAt u b (S.set i Sl.zero) 4 8 → Calls Try.prog 21 #[.pointer (some ⟨b, 0, none⟩), .agg #[.int .i64 0, .int .i64 4194304], .int .i64 4] u fun e w' => e = .returned (.tuple #[.agg #[.int .i64 i, .int .i64 4194312], .int .i64 0]) ∧ TbAt w' b (minted (S.set i Sl.zero) 4 8 4) 4 9 ∧ UpdS (fun x => x = b) u w') := fun u hu => by
          have := mintR_any b (S.set i Sl.zero) 4 8 4 u hu hR2 (by omega) (by omega) (by omega)
          rw [hroom] at this
          exact this
        have hR3 := hR2.mint (by omega) (by omega) (show 4 < 16 by omega)
        have hl3 : (allS (minted (S.set i Sl.zero) 4 8 4)).length = 8 := by rw [hR3.2]; omega
        have K4 : Hid (∀ u, TbAt u b (minted (S.set i Sl.zero) 4 8 4) 4 9 → Calls Try.prog 21 #[.pointer (some ⟨b, 0, none⟩), .agg #[.int .i64 0, .int .i64 4194304], .int .i64 4] u fun e w' => e = .returned (.tuple #[.agg #[.int .i64 0, .int .i64 0], .int .i64 13]) ∧ Grow u w') := fun u hu => mintR_full b _ 4 9 4 u hu hR3.1 hl3 (by omega)
        have K5 : Hid (∀ u, TbAt u b (minted (S.set i Sl.zero) 4 8 4) 4 9 → Calls Try.prog 25 #[.pointer (some ⟨b, 0, none⟩)] u fun e w' => e = .returned (.int .i64 8) ∧ Grow u w') := fun u hu => by
          have := live_any b _ 4 9 u hu hR3.1.1.len
          rw [hl3] at this
          exact this
        have R1 : Hid (∀ u, TbAt u b S 4 8 → Calls Try.prog 12 #[.pointer (some ⟨b, 0, none⟩)] u fun e w' => e = .returned (.agg #[.int .i64 0, .int .i64 4194304]) ∧ Grow u w') := fun u hu => rootR_any b S 4 8 u hu HP.out.1
        have R2 : Hid (∀ u, TbAt u b (S.set i Sl.zero) 4 8 → Calls Try.prog 12 #[.pointer (some ⟨b, 0, none⟩)] u fun e w' => e = .returned (.agg #[.int .i64 0, .int .i64 4194304]) ∧ Grow u w') := fun u hu => rootR_any b _ 4 8 u hu hR2.1
        have R3 : Hid (∀ u, TbAt u b (minted (S.set i Sl.zero) 4 8 4) 4 9 → Calls Try.prog 12 #[.pointer (some ⟨b, 0, none⟩)] u fun e w' => e = .returned (.agg #[.int .i64 0, .int .i64 4194304]) ∧ Grow u w') := fun u hu => rootR_any b _ 4 9 u hu hR3.1.1
        have hold2 : dg < 4194312 := by omega
        clear hg hs hold hS8 hl8 hi8 hi1 hR2 hl2 hroom hR3 hl3 g0 g8 HP h7 hL
        generalize minted (S.set i Sl.zero) 4 8 4 = S3 at K3 K4 K5 R3
        generalize S.set i Sl.zero = S2 at K2 K3 R2
        go_wp2_with fail
        refine (HA7.out wr).mono ?_
        rintro e w2 ⟨rfl, rfl⟩
        obtain ⟨hv4, hm4, hb4⟩ := HM.out.var i dg
        obtain ⟨b12, hb12⟩ : ∃ b12, b12 = wr.heap.size := ⟨_, rfl⟩
        obtain ⟨W4, hW4⟩ : ∃ W4, W4 = wr.alloc (.cells #[.int .i64 (i : Int), .int .i64 dg] 33) := ⟨_, rfl⟩
        rw [← hW4, ← hb12] at hv4
        rw [← hW4] at hm4
        rw [← hb12] at hb4
        have H4 : Hid (LwM w W4.drew b S 4 8 (.slice (some ⟨bb, oo, none⟩) L.length cv) L ∧ VarAt W4.drew b12 [.int .i64 (i : Int), .int .i64 dg] ∧ b < b12) := ⟨hm4.grow (Grow.refl _).drew, hv4.grow (Grow.refl _).drew, hb4⟩
        clear hv4 hm4 hb4 HM HA7
        go_wp2
        rw [← hW4, ← hb12]
        clear hW4 hb12 c0 c1
        refine wp_region_schedG (UpdS (fun i => i = b)) (UpdS.refl _) (fun _ _ _ => UpdS.trans) (by kernel_rfl) [(0, false), (1, false), (3, false), (2, true), (4, true), (5, false)] (by kernel_rfl) (by kernel_rfl) rfl (fun _ _ d _ _ h => by cases d <;> exact h) ?_
        simp only [inOrder, List.filterMap_cons, List.filterMap_nil, List.getElem?_toArray, List.getElem?_cons_zero, List.getElem?_cons_succ, Option.map_some]
        repeat (first
          | (refine wpS_move rfl ?_; simp only [Act.eval, Act.put, Array.getD_eq_getD_getElem?, List.getElem?_toArray, List.getElem?_cons_zero, List.getElem?_cons_succ, Option.getD_some, List.setIfInBounds_toArray, List.set_cons_zero, List.set_cons_succ])
          | (refine wpS_assign rfl ?_; simp only [Act.eval, Act.put, Array.getD_eq_getD_getElem?, List.getElem?_toArray, List.getElem?_cons_zero, List.getElem?_cons_succ, Option.getD_some, List.setIfInBounds_toArray, List.set_cons_zero, List.set_cons_succ])
          | (refine wpS_read (v := ?_) rfl ?_ ?_; rotate_left; (focus (intro w' hG; obtain ⟨⟨q0, q1⟩, -⟩ := (H4.out.2.1.upd hG (by have := H4.out.2.2; omega)).two; go_simp; try (with_reducible rfl))); simp only [Act.put, List.setIfInBounds_toArray, List.set_cons_zero, List.set_cons_succ])
          | (refine wpS_skip rfl ?_; simp only [Act.put, List.setIfInBounds_toArray, List.set_cons_zero, List.set_cons_succ]))
        refine wpS_call (f := ?_) (args := ?_) (by rfl) ?_ ?_
        rotate_left 2; focus (go_simp; constructor <;> with_reducible rfl)
        refine ((R1.out _ H4.out.1.1)).mono ?_
        rintro e w5 ⟨rfl, g5⟩
        refine ⟨_, rfl, g5.s, ?_⟩
        simp only [Act.put, List.setIfInBounds_toArray, List.set_cons_zero, List.set_cons_succ]
        have H5 := hid (H4.out.1.grow g5)
        have V5 := hid (H4.out.2.1.grow g5)
        repeat (first
          | (refine wpS_move rfl ?_; simp only [Act.eval, Act.put, Array.getD_eq_getD_getElem?, List.getElem?_toArray, List.getElem?_cons_zero, List.getElem?_cons_succ, Option.getD_some, List.setIfInBounds_toArray, List.set_cons_zero, List.set_cons_succ])
          | (refine wpS_assign rfl ?_; simp only [Act.eval, Act.put, Array.getD_eq_getD_getElem?, List.getElem?_toArray, List.getElem?_cons_zero, List.getElem?_cons_succ, Option.getD_some, List.setIfInBounds_toArray, List.set_cons_zero, List.set_cons_succ])
          | (refine wpS_read (v := ?_) rfl ?_ ?_; rotate_left; (focus (intro w' hG; go_simp; try (with_reducible rfl))); simp only [Act.put, List.setIfInBounds_toArray, List.set_cons_zero, List.set_cons_succ])
          | (refine wpS_skip rfl ?_; simp only [Act.put, List.setIfInBounds_toArray, List.set_cons_zero, List.set_cons_succ]))
        refine wpS_call (f := ?_) (args := ?_) (by rfl) ?_ ?_
        rotate_left 2; focus (go_simp; constructor <;> with_reducible rfl)
        refine ((K2.out w5 H5.out.1)).mono ?_
        rintro e w6 ⟨rfl, t6, u6⟩
        refine ⟨_, rfl, u6, ?_⟩
        simp only [Act.put, List.setIfInBounds_toArray, List.set_cons_zero, List.set_cons_succ]
        have H6 : Hid (LwM w w6 b S2 4 8 (.slice (some ⟨bb, oo, none⟩) L.length cv) L ∧ VarAt w6 b12 [.int .i64 (i : Int), .int .i64 dg] ∧ b < b12) := ⟨H5.out.turn t6 u6, V5.out.upd u6 (by have := H4.out.2.2; omega), H4.out.2.2⟩
        clear t6 u6 g5 H4 H5 V5 K2 R1
        repeat (first
          | (refine wpS_move rfl ?_; simp only [Act.eval, Act.put, Array.getD_eq_getD_getElem?, List.getElem?_toArray, List.getElem?_cons_zero, List.getElem?_cons_succ, Option.getD_some, List.setIfInBounds_toArray, List.set_cons_zero, List.set_cons_succ])
          | (refine wpS_assign rfl ?_; simp only [Act.eval, Act.put, Array.getD_eq_getD_getElem?, List.getElem?_toArray, List.getElem?_cons_zero, List.getElem?_cons_succ, Option.getD_some, List.setIfInBounds_toArray, List.set_cons_zero, List.set_cons_succ])
          | (refine wpS_read (v := ?_) rfl ?_ ?_; rotate_left; (focus (intro w' hG; go_simp; try (with_reducible rfl))); simp only [Act.put, List.setIfInBounds_toArray, List.set_cons_zero, List.set_cons_succ])
          | (refine wpS_skip rfl ?_; simp only [Act.put, List.setIfInBounds_toArray, List.set_cons_zero, List.set_cons_succ]))
        refine wpS_nil ?_
        have k7 := R2.out w6 H6.out.1.1
        go_wp2_with fail
        refine k7.mono ?_
        rintro e w7 ⟨rfl, g7⟩
        have k8 := K3.out w7 (H6.out.1.1.grow g7)
        clear k7
        go_wp2_with fail
        refine k8.mono ?_
        rintro e w8 ⟨rfl, t8, u8⟩
        obtain ⟨hv9, hm9, hb9⟩ := ((H6.out.1.grow g7).turn t8 u8).var (i : Int) 4194312
        have V8 := (H6.out.2.1.grow g7).upd u8 (by have := H6.out.2.2; omega)
        obtain ⟨b14, hb14⟩ : ∃ b14, b14 = w8.heap.size := ⟨_, rfl⟩
        obtain ⟨W9, hW9⟩ : ∃ W9, W9 = w8.alloc (.cells #[.int .i64 (i : Int), .int .i64 4194312] 33) := ⟨_, rfl⟩
        have g89 : Grow w8 W9 := by rw [hW9]; exact (Grow.refl w8).alloc _
        rw [← hW9, ← hb14] at hv9
        rw [← hW9] at hm9
        have H9 : Hid (LwM w W9 b S3 4 9 (.slice (some ⟨bb, oo, none⟩) L.length cv) L ∧ VarAt W9 b12 [.int .i64 (i : Int), .int .i64 dg] ∧ VarAt W9 b14 [.int .i64 (i : Int), .int .i64 4194312]) := ⟨hm9, V8.grow g89, hv9⟩
        have k9 := R3.out W9 H9.out.1.1
        clear k8 t8 u8 g7 hv9 hm9 hb9 V8 g89 H6 K3 R2
        go_wp2_with fail
        rw [← hW9, ← hb14]
        clear hW9 hb14
        refine k9.mono ?_
        rintro e wa ⟨rfl, ga⟩
        have ka := K4.out wa (H9.out.1.1.grow ga)
        clear k9
        go_wp2_with fail
        refine ka.mono ?_
        rintro e wb ⟨rfl, gb⟩
        have gc := (ga.trans gb).trans ((Grow.refl wb).alloc (.cells #[.int .i64 0, .int .i64 0] 33))
        obtain ⟨Wc, hWc⟩ : ∃ Wc, Wc = wb.alloc (.cells #[.int .i64 0, .int .i64 0] 33) := ⟨_, rfl⟩
        rw [← hWc] at gc
        have Hc : Hid (LwM w Wc b S3 4 9 (.slice (some ⟨bb, oo, none⟩) L.length cv) L ∧ VarAt Wc b12 [.int .i64 (i : Int), .int .i64 dg] ∧ VarAt Wc b14 [.int .i64 (i : Int), .int .i64 4194312]) := ⟨H9.out.1.grow gc, H9.out.2.1.grow gc, H9.out.2.2.grow gc⟩
        clear ka ga gb gc H9 K4 R3
        obtain ⟨⟨p0, p1⟩, -⟩ := Hc.out.2.1.two
        obtain ⟨⟨r0, r1⟩, -⟩ := Hc.out.2.2.two
        have kc := K5.out Wc Hc.out.1.1
        go_upto_region 20 with fail
        rw [← hWc]
        clear hWc
        go_wp2_with fail
        refine kc.mono ?_
        rintro e wd ⟨rfl, gd⟩
        have Hd := hid (Hc.out.1.2.2.1.trans gd)
        clear kc gd p0 p1 r0 r1 Hc K5
        go_wp2_with fail
        refine (lives_any wd).mono ?_
        rintro e we ⟨rfl, ge⟩
        go_wp2
        go_ret
        exact ⟨rfl, Hd.out.trans ge⟩
end Go.Proofs.Ytoobohbghobfhaa
