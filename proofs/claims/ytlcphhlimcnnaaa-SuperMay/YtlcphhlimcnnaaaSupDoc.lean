/-
  The walk of the document's bytes of a superblock. Conditions: each theorem's own.
-/
import Derived.Test.YtlcphhlimcnnaaaSupWr
import Derived.Test.YtlcphhlimcnnaaaRLay
import Derived.Test.YtlcphhlimcnnaaaDoc
namespace Go.Proofs.Ytlcphhlimcnnaaa
open Go.RowKit
set_option linter.unusedVariables false
set_option linter.unusedSimpArgs false

set_option maxHeartbeats 4000000 in
theorem qbytes_any {p : Nat → Prop} (ep fr dp se : Int) (v : Value) (ps : List Pt) (w : World) (h : RdP p w v ps) (hl : ps.length ≤ 16) :
    Calls Try.prog 14 #[.agg #[.int .i64 ep, .int .i64 fr, .int .i64 dp, .int .i64 se, v]] w fun e w' => ∃ v', e = .returned v' ∧ Own .u8 w.heap.size w' v' (sbytes ep fr dp se ps) ∧ Grow w w' := by
  obtain ⟨i0, hi, hz0, hz1, hz2⟩ := info_parts Try.infoI
  obtain ⟨i8, hi8, hy0, hy1, hy2⟩ := info_parts Try.info5
  have HR : Hid (RdP p w v ps) := h
  obtain ⟨a, cp, rfl, h1, h2, -⟩ := h
  unfold maxLen at h2
  have H6 : Hid (Own .i64 (w.heap.size + 1) ((w.alloc (.cells #[.int .i64 ep, .int .i64 fr, .int .i64 dp, .int .i64 se, .slice a ps.length cp] 26)).alloc (.cells #[.int .i64 1, .int .i64 ep, .int .i64 fr, .int .i64 dp, .int .i64 se, .int .i64 (ps.length : Int)] 3)) (.slice (some ⟨w.heap.size + 1, 0, none⟩) 6 6) [1, ep, fr, dp, se, (ps.length : Int)] ∧ VarAt ((w.alloc (.cells #[.int .i64 ep, .int .i64 fr, .int .i64 dp, .int .i64 se, .slice a ps.length cp] 26)).alloc (.cells #[.int .i64 1, .int .i64 ep, .int .i64 fr, .int .i64 dp, .int .i64 se, .int .i64 (ps.length : Int)] 3)) w.heap.size [.int .i64 ep, .int .i64 fr, .int .i64 dp, .int .i64 se, .slice a ps.length cp] ∧ Grow w ((w.alloc (.cells #[.int .i64 ep, .int .i64 fr, .int .i64 dp, .int .i64 se, .slice a ps.length cp] 26)).alloc (.cells #[.int .i64 1, .int .i64 ep, .int .i64 fr, .int .i64 dp, .int .i64 se, .int .i64 (ps.length : Int)] 3))) :=
    ⟨six_new w _ _ _ _ _ _ _ _ (by omega), (VarAt.new w [.int .i64 ep, .int .i64 fr, .int .i64 dp, .int .i64 se, .slice a ps.length cp] _).old _, ((Grow.refl w).alloc _).alloc _⟩
  go_enter Try.func14, Try.ntmps14
  go_wp2
  go_loopg [4, 5] ps.length (fun k d c wr => ∃ j : Nat, k = ps.length - j ∧ j ≤ ps.length ∧ c = .int .i64 j ∧ Hid (Own .i64 (w.heap.size + 1) wr d ([1, ep, fr, dp, se, (ps.length : Int)] ++ pnums (ps.take j)) ∧ VarAt wr w.heap.size [.int .i64 ep, .int .i64 fr, .int .i64 dp, .int .i64 se, .slice a ps.length cp] ∧ Grow w wr))
  case atStart => exact ⟨0, by omega, by omega, rfl, by simpa [pnums, Hid] using H6.out⟩
  case round =>
    clear H6
    obtain ⟨j, hk, hj, rfl, X⟩ := hrel
    by_cases hlt : j < ps.length
    · have hle : (j : Int) < (ps.length : Int) := by omega
      have HL : Hid (j < ps.length ∧ gk = ps.length - j) := ⟨hlt, hk⟩
      obtain ⟨bb, oo, rfl, _, hbw, hin⟩ := rdP_at HR.out hlt
      have hsn := pnums_next ps j hlt
      generalize ps.getD j Pt.zero = d at hin hsn
      obtain ⟨q0, q1, q2⟩ := d
      have HN : Hid ([1, ep, fr, dp, se, (ps.length : Int)] ++ pnums (ps.take (j + 1)) = ([1, ep, fr, dp, se, (ps.length : Int)] ++ pnums (ps.take j)) ++ [q0, q1, q2]) := by show _ = _; rw [hsn, ← List.append_assoc]; rfl
      have hpin : PIn wr bb (oo + j * 3) ⟨q0, q1, q2⟩ := hin.grow X.out.2.2
      have hll : ([1, ep, fr, dp, se, (ps.length : Int)] ++ pnums (ps.take j)).length ≤ 1000 := by
        rw [List.length_append, pnums_length, List.length_take]; simp; omega
      obtain ⟨ho, hv, hg⟩ := X.out
      have hsz : w.heap.size + 1 ≤ wr.heap.size := hv.lt
      have kx : ∀ w', UpdS (fun i => w.heap.size + 1 ≤ i) wr.drew w' → VarAt w' w.heap.size [.int .i64 ep, .int .i64 fr, .int .i64 dp, .int .i64 se, .slice (some ⟨bb, oo, none⟩) ps.length cp] ∧ PIn w' bb (oo + j * 3) ⟨q0, q1, q2⟩ := fun w' h => ⟨(hv.grow (Grow.refl wr).drew).upd h (by omega), (hpin.grow (Grow.refl wr).drew).upd h (by omega)⟩
      generalize [1, ep, fr, dp, se, (ps.length : Int)] ++ pnums (ps.take j) = zs at HN hll ho
      obtain ⟨v4, w4, hrun, ho4, hb4⟩ := run_app (P := Try.prog) (w := wr.drew.alloc (.cells #[.int .i64 q0, .int .i64 q1, .int .i64 q2] 3)) 54 54 54 i0 (.int .i64 0) 8 Try.underlying54 hi hz0 hz1 hz2 rfl ((ho.below (Below.refl _ _).drew (Nat.le_refl _)).alloc _) (three_one wr.drew q0 q1 q2) (by simp only [maxLen, List.length_cons, List.length_nil]; omega) (by simp only [List.length_cons, List.length_nil]; omega) (by rw [World.size_alloc]; show w.heap.size + 1 ≤ wr.heap.size + 1; omega)
      have hu4 : UpdS (fun i => w.heap.size + 1 ≤ i) wr.drew w4 := (Grow.s ((Grow.refl _).alloc _)).trans (below_s hb4)
      have hv4 : VarAt w4 w.heap.size [.int .i64 ep, .int .i64 fr, .int .i64 dp, .int .i64 se, .slice (some ⟨bb, oo, none⟩) ps.length cp] := (kx w4 hu4).1
      have hg4 : Grow w w4 := UpdS.new hg.drew hu4 (fun i hi => by omega)
      have H4 : Hid (Own .i64 (w.heap.size + 1) w4 v4 (zs ++ [q0, q1, q2]) ∧ VarAt w4 w.heap.size [.int .i64 ep, .int .i64 fr, .int .i64 dp, .int .i64 se, .slice (some ⟨bb, oo, none⟩) ps.length cp] ∧ Grow w w4) := ⟨ho4, hv4, hg4⟩
      have hw1 : IntKind.i64.wrap ((j : Int) + 1) = (j : Int) + 1 := by rw [IntKind.wrap_i64]; omega
      obtain ⟨⟨b0, b1, b2, b3, b4⟩, -⟩ := hv.five
      simp only [PIn] at kx
      clear X hk hj hlt hin hsn hv hv4 hg4 hg ho4 hpin ho hbw
      go_wp2
      refine wp_region_schedG (UpdS (fun i => w.heap.size + 1 ≤ i)) (UpdS.refl _) (fun _ _ _ => UpdS.trans) (by kernel_rfl) [(0, false), (1, false), (2, false), (3, false), (4, false), (5, false), (6, false), (7, false), (8, false), (9, false), (10, false), (11, false), (12, false), (13, false), (14, false), (15, false), (16, false), (17, false), (18, false), (19, false), (20, false), (21, false), (22, true), (23, true), (24, false)] (by kernel_rfl) (by kernel_rfl) rfl (fun _ _ d _ _ h => by cases d <;> exact h) ?_
      simp only [inOrder, List.filterMap_cons, List.filterMap_nil, List.getElem?_toArray, List.getElem?_cons_zero, List.getElem?_cons_succ, Option.map_some]
      repeat (first
        | (refine wpS_move rfl ?_; simp only [Act.eval, Act.put, Array.getD_eq_getD_getElem?, List.getElem?_toArray, List.getElem?_cons_zero, List.getElem?_cons_succ, Option.getD_some, List.setIfInBounds_toArray, List.set_cons_zero, List.set_cons_succ])
        | (refine wpS_assign rfl ?_; simp only [Act.eval, Act.put, Array.getD_eq_getD_getElem?, List.getElem?_toArray, List.getElem?_cons_zero, List.getElem?_cons_succ, Option.getD_some, List.setIfInBounds_toArray, List.set_cons_zero, List.set_cons_succ])
        | (refine wpS_read (v := ?_) rfl ?_ ?_; rotate_left; (focus (intro w' hG; obtain ⟨kv, k0, k1, k2⟩ := kx w' hG; obtain ⟨⟨m0, m1, m2, m3, m4⟩, -⟩ := kv.five; go_simp; try (with_reducible rfl))); simp only [Act.put, List.setIfInBounds_toArray, List.set_cons_zero, List.set_cons_succ])
        | (refine wpS_skip rfl ?_; simp only [Act.put, List.setIfInBounds_toArray, List.set_cons_zero, List.set_cons_succ]))
      refine wpS_act rfl (exec_ints3 rfl rfl rfl rfl) (Grow.s ((Grow.refl _).alloc _)) ?_
      simp only [Act.put, List.setIfInBounds_toArray, List.set_cons_zero, List.set_cons_succ]
      refine wpS_act (v := v4) (w' := w4) rfl (exec_app rfl rfl rfl hrun) (below_s hb4) ?_
      simp only [Act.put, List.setIfInBounds_toArray, List.set_cons_zero, List.set_cons_succ]
      repeat (first
        | (refine wpS_move rfl ?_; simp only [Act.eval, Act.put, Array.getD_eq_getD_getElem?, List.getElem?_toArray, List.getElem?_cons_zero, List.getElem?_cons_succ, Option.getD_some, List.setIfInBounds_toArray, List.set_cons_zero, List.set_cons_succ])
        | (refine wpS_assign rfl ?_; simp only [Act.eval, Act.put, Array.getD_eq_getD_getElem?, List.getElem?_toArray, List.getElem?_cons_zero, List.getElem?_cons_succ, Option.getD_some, List.setIfInBounds_toArray, List.set_cons_zero, List.set_cons_succ])
        | (refine wpS_read (v := ?_) rfl ?_ ?_; rotate_left; (focus (intro w' hG; skip; go_simp; try (with_reducible rfl))); simp only [Act.put, List.setIfInBounds_toArray, List.set_cons_zero, List.set_cons_succ])
        | (refine wpS_skip rfl ?_; simp only [Act.put, List.setIfInBounds_toArray, List.set_cons_zero, List.set_cons_succ]))
      refine wpS_nil ?_
      clear kx hrun hb4 hu4 b0 b1 b2 b3 b4
      go_wp2
      go_roundg (ps.length - (j + 1))
      case measure => have := HL.out; omega
      case rel =>
        refine ⟨j + 1, rfl, HL.out.1, by go_num, ?_⟩
        rw [HN.out]; exact H4
    · have hle : ¬ (j : Int) < (ps.length : Int) := by omega
      obtain rfl : j = ps.length := by omega
      have HX := X.out
      rw [List.take_length] at HX
      obtain ⟨ho, hv, hg⟩ := HX
      have HS : Hid (Rd .i64 wr.heap.size wr _ (nums ep fr dp se ps)) := ho.rd
      have hL := nums_small (ep := ep) (fr := fr) (dp := dp) (se := se) hl
      have hob := oct_leAll (nums ep fr dp se ps)
      have HB : Hid (leAll (nums ep fr dp se ps) ++ le 4 (chk 0 (leAll (nums ep fr dp se ps)) : Nat) = sbytes ep fr dp se ps) := rfl
      generalize nums ep fr dp se ps = L at HS hL hob HB
      obtain ⟨⟨b0, b1, b2, b3, b4⟩, -⟩ := hv.five
      have HG : Hid (Grow w wr) := hg
      have HL : Hid (L.length ≤ 100 ∧ (leAll L).length ≤ 1000) := ⟨hL.2, hL.1⟩
      obtain ⟨aL, cL, hvL, hl1, hl2, -⟩ := HS.out
      subst hvL
      unfold maxLen at hl2
      have hl100 : L.length ≤ 100 := hL.2
      clear X ho hv hg hL h1 h2 hl HR
      go_wp2
      clear b0 b1 b2 b3 b4
      obtain ⟨w5, hw5⟩ : ∃ w5, w5 = wr := ⟨_, rfl⟩
      subst hw5
      go_loopg [3, 6] L.length (fun k d c wr => ∃ i : Nat, k = L.length - i ∧ i ≤ L.length ∧ c = .int .i64 i ∧ Hid (Own .u8 w5.heap.size wr d (leAll (L.take i)) ∧ Grow w5 wr))
      case atStart => exact ⟨0, by omega, by omega, rfl, Own.nil _ _ _ _, Grow.refl _⟩
      case round =>
        obtain ⟨i, hk, hi', rfl, X⟩ := hrel
        by_cases hlt : i < L.length
        · have hle : (i : Int) < (L.length : Int) := by omega
          have HLI : Hid (i < L.length ∧ gk = L.length - i) := ⟨hlt, hk⟩
          obtain ⟨-, -, -, bL, oL, eL, hbL, hcL⟩ := (HS.out.below X.out.2).addr (by omega)
          subst eL
          have hci := hcL i hlt
          have HT : Hid (leAll (L.take (i + 1)) = leAll (L.take i) ++ leI (L.getD i 0)) := leAll_take_succ L i hlt
          have hll : (leAll (L.take i)).length ≤ 1000 := by rw [leAll_length, List.length_take]; omega
          have hl8 : (leI (L.getD i 0)).length = 8 := leI_length _
          generalize L.getD i 0 = x at hci HT hl8
          have hw1 : IntKind.i64.wrap ((i : Int) + 1) = (i : Int) + 1 := by rw [IntKind.wrap_i64]; omega
          obtain ⟨ho, hg⟩ := X.out
          generalize leAll (L.take i) = zs at HT hll ho
          clear X hcL hk hi' hlt
          go_wp2_with fail
          refine (rInt_any x wr).mono ?_
          rintro e w6 ⟨v6, rfl, ho6, b6⟩
          have hs6 := ho6.rd.src (P := Try.prog) Try.underlying31
          have ho7 := ho.below b6 (Nat.le_refl _)
          have g6 : Grow w5 w6 := hg.trans b6
          go_wp2_with (at_builtin; refine wpList_app rfl (.tmp 61) (.tmp 66) 31 31 rfl i8 (.int .u8 0) 1 Try.underlying31 hi8 hy0 hy1 hy2 rfl rfl rfl ho7 hs6 (by simp only [maxLen]; omega) (by omega) g6.size ?_)
          intro v8 w8 ho8 b8
          go_wp2
          go_roundg (L.length - (i + 1))
          case measure => have := HLI.out; omega
          case rel =>
            refine ⟨i + 1, rfl, HLI.out.1, by go_num, ?_, Below.trans g6 b8⟩
            rw [HT.out]; exact ho8
        · have hle : ¬ (i : Int) < (L.length : Int) := by omega
          obtain rfl : i = L.length := by omega
          have HX := X.out
          rw [List.take_length] at HX
          obtain ⟨ho, hg⟩ := HX
          clear X
          go_wp2_with fail
          refine (rput_any _ (leAll L) _ _ ho.rd hob (by have := HL.out; omega)).mono ?_
          rintro e w6 ⟨v6, rfl, ho6, b6⟩
          rw [HB.out] at ho6
          have G6 : Grow w wr := HG.out.trans hg
          go_wp2
          go_ret
          exact ⟨_, rfl, ho6.base G6.size, G6.trans b6⟩
end Go.Proofs.Ytlcphhlimcnnaaa
