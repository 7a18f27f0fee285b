/-
  The walk of CapsLess. Conditions: the theorem's own.
-/
import Derived.Test.YtoobohbghobfhaaCapL
import Derived.Test.YtoobohbghobfhaaRigH
namespace Go.Proofs.Ytoobohbghobfhaa
open Go.RowKit
set_option linter.unusedVariables false
set_option linter.unusedSimpArgs false

theorem emp_g {x : Sl} (h : ¬ x.g = 0) : x.emp = false := by
  unfold Sl.emp
  rw [decide_eq_false h, Bool.and_false]
/-- a chain of mints, j links behind the root -/
def LeAt (w wr : World) (b b5 : Nat) (S : List Sl) (j : Nat) (c : Cp) (own : Nat) : Prop :=
  TbAt wr b S 2 ((j : Int) + 1) ∧ TbOk S 2 ((j : Int) + 1) ∧ (allS S).length = j + 1 ∧ VarAt wr b5 [.int .i64 c.s, .int .i64 c.g] ∧ goodB S c = true ∧ (atS S c).r = own ∧ own < 16 ∧ Grow w wr ∧ w.heap.size ≤ b ∧ b < b5
theorem LeAt.room {w wr : World} {b b5 : Nat} {S : List Sl} {j : Nat} {c : Cp} {own : Nat} (h : LeAt w wr b b5 S j c own) (hj : j < 7) : roomN S < 8 := by
  have := room_lt (S := S) (by rw [h.2.1.len, h.2.2.1]; omega)
  rwa [h.2.1.len] at this
theorem LeAt.chk {w wr : World} {b b5 : Nat} {S : List Sl} {j : Nat} {c : Cp} {own : Nat} (h : LeAt w wr b b5 S j c own) (need : Nat) : chkS S c need = if hasB own need then 0 else 11 := by
  unfold chkS
  rw [h.2.2.2.2.1, h.2.2.2.2.2.1]; rfl
theorem LeAt.next {w wr wx : World} {b b5 : Nat} {S : List Sl} {j : Nat} {c : Cp} {own s : Nat} (h : LeAt w wr b b5 S j c own) (hj : j < 7) (hs : s < 16)
    (ht : TbAt wx b (minted S 2 ((j : Int) + 1) s) 2 ((j : Int) + 1 + 1)) (hv : VarAt wx b5 [.int .i64 (roomN S), .int .i64 (2 * 1048576 + ((j : Int) + 1))]) (hg : Grow w wx) : LeAt w wx b b5 (minted S 2 ((j : Int) + 1) s) (j + 1) ⟨roomN S, 2 * 1048576 + ((j : Int) + 1)⟩ s := by
  have h8 := h.room hj
  have he : (⟨roomN S, 2 * 1048576 + ((j : Int) + 1), s⟩ : Sl).emp = false := emp_g (by show ¬ (2 * 1048576 + ((j : Int) + 1) = 0); omega)
  have ha : atS (minted S 2 ((j : Int) + 1) s) ⟨roomN S, 2 * 1048576 + ((j : Int) + 1)⟩ = ⟨roomN S, 2 * 1048576 + ((j : Int) + 1), s⟩ := at_eq _ (by rw [h.2.1.len]; exact h8) (by simp)
  have ej : ((j + 1 : Nat) : Int) = (j : Int) + 1 := by omega
  refine ⟨by rw [ej]; exact ht, by rw [ej]; exact h.2.1.put (by omega) hs, ?_, hv, goodB_is (by show (0 : Int) ≤ (roomN S : Int); omega) (by show (roomN S : Int) < 8; omega) (by rw [ha]; exact he) (by rw [ha]; rfl), by rw [ha], hs, hg, h.2.2.2.2.2.2.2.2.1, h.2.2.2.2.2.2.2.2.2⟩
  unfold minted
  rw [allS_put_len (by rw [h.2.1.len]; exact h8) he, h.2.2.1]
theorem LeAt.pure {w wr : World} {b b5 : Nat} {S : List Sl} {j : Nat} {c : Cp} {own s : Nat} (h : LeAt w wr b b5 S j c own) (hj : j < 7) :
    (minted S 2 ((j : Int) + 1) s).length = 8 ∧ goodB (minted S 2 ((j : Int) + 1) s) ⟨roomN S, 2 * 1048576 + ((j : Int) + 1)⟩ = true ∧ rgtS (minted S 2 ((j : Int) + 1) s) ⟨roomN S, 2 * 1048576 + ((j : Int) + 1)⟩ = s := by
  have h8 := h.room hj
  have he : (⟨roomN S, 2 * 1048576 + ((j : Int) + 1), s⟩ : Sl).emp = false := emp_g (by show ¬ (2 * 1048576 + ((j : Int) + 1) = 0); omega)
  have ha : atS (minted S 2 ((j : Int) + 1) s) ⟨roomN S, 2 * 1048576 + ((j : Int) + 1)⟩ = ⟨roomN S, 2 * 1048576 + ((j : Int) + 1), s⟩ := at_eq _ (by rw [h.2.1.len]; exact h8) (by simp)
  have hg := goodB_is (S := minted S 2 ((j : Int) + 1) s) (c := ⟨roomN S, 2 * 1048576 + ((j : Int) + 1)⟩) (by show (0 : Int) ≤ (roomN S : Int); omega) (by show (roomN S : Int) < 8; omega) (by rw [ha]; exact he) (by rw [ha]; rfl)
  refine ⟨by unfold minted; rw [List.length_set]; exact h.2.1.len, hg, ?_⟩
  unfold rgtS
  rw [hg, ha]; rfl
theorem LeAt.rgt {w wr : World} {b b5 : Nat} {S : List Sl} {j : Nat} {c : Cp} {own : Nat} (h : LeAt w wr b b5 S j c own) : rgtS S c = own := by
  unfold rgtS
  rw [h.2.2.2.2.1, h.2.2.2.2.2.1]; rfl

set_option maxRecDepth 8000 in
set_option maxHeartbeats 8000000 in
theorem capsLess_walk (v0 : Value) (ls : List Int) (w : World) (pp : Nat → Prop) (hl : RdV (Value.int .i64) 0 pp w v0 ls) (hls : ∀ z ∈ ls, (Lit.int .i64 z).wf = true) :
    Calls Try.prog 5 #[v0] w fun e w' => e = .returned (.bool true) ∧ Grow w w' := by
  have hll := hl.len
  unfold maxLen at hll
  have HR : Hid (RdV (Value.int .i64) 0 pp w v0 ls ∧ ∀ z ∈ ls, (Lit.int .i64 z).wf = true) := ⟨hl, hls⟩
  obtain ⟨a0, c0, rfl⟩ := hl.shape
  clear hl hls
  have h1 := new_in 2 w (by omega) (by omega)
  obtain ⟨b, hb⟩ : ∃ b, b = w.heap.size := ⟨_, rfl⟩
  have HB : Hid (b = w.heap.size) := hb
  rw [← hb] at h1
  clear hb
  have hR := hid (newS_root (k := 2) (by omega) (by omega))
  go_enter Try.func5, Try.ntmps5
  go_wp2_with fail
  refine h1.mono ?_
  rintro e w1 ⟨rfl, t1, g1⟩
  have T1 := hid t1
  have G1 := hid g1
  have k2 : Calls Try.prog 12 #[.pointer (some ⟨b, 0, none⟩)] w1 fun e w' => e = .returned (.agg #[.int .i64 0, .int .i64 2097152]) ∧ Grow w1 w' := rootR_any b (newS 2) 2 1 w1 t1 hR.out.1
  clear h1 t1 g1
  go_wp2_with fail
  refine k2.mono ?_
  rintro e w2 ⟨rfl, g2⟩
  obtain ⟨b5, hb5⟩ : ∃ b5, b5 = w2.heap.size := ⟨_, rfl⟩
  obtain ⟨W3, hW3⟩ : ∃ W3, W3 = w2.alloc (.cells #[.int .i64 0, .int .i64 2097152] 33) := ⟨_, rfl⟩
  have HL : Hid (LeAt w W3 b b5 (newS 2) 0 (rootC 2) 15) := by
    have hg2 : Grow w2 W3 := by rw [hW3]; exact (Grow.refl w2).alloc _
    have hv : VarAt W3 b5 [.int .i64 0, .int .i64 2097152] := by rw [hW3, hb5]; exact VarAt.new w2 [.int .i64 0, .int .i64 2097152] 33
    exact ⟨(T1.out.grow g2).grow hg2, hR.out.1, newS_len 2 (by omega), hv, hR.out.good, by rw [hR.out.at], by omega, (G1.out.trans g2).trans hg2, by have := HB.out; omega, by have := (T1.out.grow g2).lt; omega⟩
  clear k2 T1 G1 g2
  go_wp2
  rw [← hW3, ← hb5]
  clear hW3 hb5 hR
  go_loopg [6, 7] ls.length (fun k o i wr => ∃ (j own : Nat) (S : List Sl) (c : Cp), k = ls.length - j ∧ j ≤ ls.length ∧ j ≤ 7 ∧ i = .int .i64 j ∧ o = .int .i64 own ∧ Hid (LeAt w wr b b5 S j c own))
  case atStart => exact ⟨0, 15, newS 2, rootC 2, rfl, Nat.zero_le _, Nat.zero_le _, rfl, rfl, HL.out⟩
  case round =>
    clear HL
    obtain ⟨j, own, S, c, hk, hj, hj7, rfl, rfl, HL⟩ := hrel
    obtain ⟨cs, cg⟩ := c
    by_cases hlt : j < ls.length
    · have hlt' : (j : Int) < (ls.length : Int) := by omega
      by_cases h7 : j < 7
      · have h7' : (j : Int) < 7 := by omega
        have HJ : Hid (j < ls.length ∧ j < 7 ∧ gk = ls.length - j) := ⟨hlt, h7, hk⟩
        obtain ⟨bb, oo, e1, -, hc⟩ := (HR.out.1.grow HL.out.2.2.2.2.2.2.2.1).addr (by omega)
        subst e1
        have f1 := hc j hlt
        have hwf : (Lit.int .i64 (ls.getD j 0)).wf = true := HR.out.2 _ (by
          have : ls.getD j 0 = ls[j] := by simp [List.getD, List.getElem?_eq_getElem hlt]
          rw [this]; exact List.getElem_mem hlt)
        generalize ls.getD j 0 = z at f1 hwf
        have har := around_any z 16 wr hwf (by omega) (by omega)
        have hbd := around_bd z 16 (by omega)
        generalize around z 16 = s0 at har hbd
        obtain ⟨s, rfl⟩ := Int.eq_ofNat_of_zero_le hbd.1
        have hs : s < 16 := by omega
        have HS : Hid (s < 16) := hs
        have k8 := fun u => rhas_any own 8 u HL.out.2.2.2.2.2.2.1 (by omega)
        have ks := fun u => rhas_any own s u HL.out.2.2.2.2.2.2.1 hs
        have c8 := HL.out.chk 8
        have cs' := HL.out.chk s
        obtain ⟨⟨m0, m1⟩, -⟩ := HL.out.2.2.2.1.two
        clear hc hwf hbd hk hj hj7 hlt h7
        cases h8 : hasB own 8
        · rw [h8] at k8 c8
          have km := mint_1 b S 2 _ ⟨cs, cg⟩ s wr HL.out.1 HL.out.2.1 11 c8 (by omega)
          generalize hasB own s = bs at ks
          clear h8 c8 cs' hs
          go_wp2_with fail
          refine har.mono ?_
          rintro e w4 ⟨rfl, rfl⟩
          clear har f1
          go_wp2_with fail
          refine km.mono ?_
          rintro e w4 ⟨rfl, g4⟩
          have G4 := hid (HL.out.2.2.2.2.2.2.2.1.trans (g4.alloc (.cells #[.int .i64 0, .int .i64 0] 33)))
          clear km g4 m0 m1
          go_wp2_with fail
          refine (k8 _).mono ?_
          rintro e w6 ⟨rfl, g6⟩
          have G6 := hid (G4.out.trans g6)
          clear k8 g6 G4
          go_wp2_with fail
          refine (ks _).mono ?_
          rintro e w7 ⟨rfl, g7⟩
          have G7 := hid (G6.out.trans g7)
          clear ks g7 G6
          go_wp2_with fail
          refine (lives_any w7).mono ?_
          rintro e w8 ⟨rfl, g8⟩
          go_wp2
          go_ret
          exact ⟨rfl, G7.out.trans g8⟩
        · rw [h8] at k8 c8
          cases hss : hasB own s
          · rw [hss] at ks cs'
            have km := mint_3 b S 2 _ ⟨cs, cg⟩ s wr HL.out.1 HL.out.2.1 11 c8 s hs rfl cs' (by omega)
            clear h8 c8 cs' hs hss
            go_wp2_with fail
            refine har.mono ?_
            rintro e w4 ⟨rfl, rfl⟩
            clear har f1
            go_wp2_with fail
            refine km.mono ?_
            rintro e w4 ⟨rfl, g4⟩
            have G4 := hid (HL.out.2.2.2.2.2.2.2.1.trans (g4.alloc (.cells #[.int .i64 0, .int .i64 0] 33)))
            clear km g4 m0 m1
            go_wp2_with fail
            refine (k8 _).mono ?_
            rintro e w6 ⟨rfl, g6⟩
            have G6 := hid (G4.out.trans g6)
            clear k8 g6 G4
            go_wp2_with fail
            refine (ks _).mono ?_
            rintro e w7 ⟨rfl, g7⟩
            have G7 := hid (G6.out.trans g7)
            clear ks g7 G6
            go_wp2_with fail
            refine (lives_any w7).mono ?_
            rintro e w8 ⟨rfl, g8⟩
            go_wp2
            go_ret
            exact ⟨rfl, G7.out.trans g8⟩
          · rw [hss] at ks cs'
            have km := mint_5 b S 2 _ ⟨cs, cg⟩ s wr HL.out.1 HL.out.2.1 c8 s hs rfl cs' (by omega) (HL.out.room HJ.out.2.1)
            have HN := hid (fun wx => HL.out.next (wx := wx) HJ.out.2.1 HS.out)
            have HP := hid (HL.out.pure (s := s) HJ.out.2.1)
            clear h8 c8 cs' hs hss
            simp only [minted] at HN HP
            generalize hgg : (2 : Int) * 1048576 + ((j : Int) + 1) = gg at km HN HP
            generalize hmm : roomN S = m at km HN HP
            clear hgg hmm
            generalize S.set m ⟨m, gg, s⟩ = S' at km HN HP
            go_wp2_with fail
            refine har.mono ?_
            rintro e w4 ⟨rfl, rfl⟩
            clear har f1
            go_wp2_with fail
            refine km.mono ?_
            rintro e w4 ⟨rfl, t4, u4⟩
            have HLt := hid HL.out.2.2.2.2.2.2.2.2
            have HV : Hid (VarAt w4 b5 [.int .i64 cs, .int .i64 cg] ∧ Grow w w4) := ⟨HL.out.2.2.2.1.upd u4 (by have := HLt.out.2; omega), UpdS.new HL.out.2.2.2.2.2.2.2.1 u4 (fun i hi => by have := HLt.out.1; omega)⟩
            obtain ⟨b9, hb9⟩ : ∃ b9, b9 = w4.heap.size := ⟨_, rfl⟩
            obtain ⟨W5, hW5⟩ : ∃ W5, W5 = w4.alloc (.cells #[.int .i64 m, .int .i64 gg] 33) := ⟨_, rfl⟩
            have hg5 : Grow w4 W5 := by rw [hW5]; exact (Grow.refl w4).alloc _
            have H5 : Hid (TbAt W5 b S' 2 ((j : Int) + 1 + 1) ∧ VarAt W5 b5 [.int .i64 cs, .int .i64 cg] ∧ VarAt W5 b9 [.int .i64 m, .int .i64 gg] ∧ Grow w W5 ∧ b5 < b9) := ⟨t4.grow hg5, HV.out.1.grow hg5, by rw [hW5, hb9]; exact VarAt.new w4 [.int .i64 m, .int .i64 gg] 33, HV.out.2.trans hg5, by rw [hb9]; exact HV.out.1.lt⟩
            clear km t4 u4 HV m0 m1 hg5
            go_wp2_with fail
            rw [← hW5, ← hb9]
            clear hW5 hb9
            refine (k8 W5).mono ?_
            rintro e w6 ⟨rfl, g6⟩
            clear k8
            go_wp2_with fail
            refine (ks w6).mono ?_
            rintro e w7 ⟨rfl, g7⟩
            have g57 := g6.trans g7
            have H7 : Hid (TbAt w7 b S' 2 ((j : Int) + 1 + 1) ∧ VarAt w7 b5 [.int .i64 cs, .int .i64 cg] ∧ VarAt w7 b9 [.int .i64 m, .int .i64 gg] ∧ Grow w w7 ∧ b5 < b9) := ⟨H5.out.1.grow g57, H5.out.2.1.grow g57, H5.out.2.2.1.grow g57, H5.out.2.2.2.1.trans g57, H5.out.2.2.2.2⟩
            clear ks g6 g7 g57 H5
            have HK := hid (fun u (hu : VarAt u b5 [.int .i64 m, .int .i64 gg]) (ht : TbAt u b S' 2 ((j : Int) + 1 + 1)) (hg : Grow w u) => HN.out u ht hu hg)
            have kr := rights_any b S' 2 ((j : Int) + 1 + 1) ⟨m, gg⟩ w7 H7.out.1 HP.out.1
            rw [HP.out.2.1, HP.out.2.2] at kr
            simp only at kr
            obtain ⟨⟨n0, n1⟩, -⟩ := H7.out.2.2.1.two
            clear HN
            go_wp2_with fail
            refine kr.mono ?_
            rintro e w8 ⟨rfl, g8⟩
            clear kr n0 n1
            have H8 : Hid (TbAt w8 b S' 2 ((j : Int) + 1 + 1) ∧ VarAt w8 b5 [.int .i64 cs, .int .i64 cg] ∧ VarAt w8 b9 [.int .i64 m, .int .i64 gg] ∧ Grow w w8 ∧ b5 < b9) := ⟨H7.out.1.grow g8, H7.out.2.1.grow g8, H7.out.2.2.1.grow g8, H7.out.2.2.2.1.trans g8, H7.out.2.2.2.2⟩
            clear g8 H7
            obtain ⟨⟨n0, n1⟩, -⟩ := H8.out.2.2.1.two
            obtain ⟨⟨m0, m1⟩, q0, q1⟩ := H8.out.2.1.two
            go_wp2
            have HF : Hid (LeAt w ((w8.setCell ⟨b5, 0, none⟩ (.int .i64 m)).setCell ⟨b5, 1, none⟩ (.int .i64 gg)) b b5 S' (j + 1) ⟨m, gg⟩ s) := by
              have hU := upd_pair w8 b5 (.int .i64 m) (.int .i64 gg)
              exact HK.out _ (H8.out.2.1.set2 _ _) (H8.out.1.upd hU (by have := HLt.out.2; omega)) (UpdS.new H8.out.2.2.2.1 hU (fun i hi => by have := HLt.out; omega))
            clear n0 n1 m0 m1 q0 q1 H8 HK
            go_roundg (ls.length - (j + 1))
            case measure => have := HJ.out; omega
            case rel => exact ⟨j + 1, s, S', ⟨m, gg⟩, rfl, HJ.out.1, HJ.out.2.1, by go_num, rfl, HF.out⟩
      · have h7' : ¬ (j : Int) < 7 := by omega
        have HG : Hid (Grow w wr) := HL.out.2.2.2.2.2.2.2.1
        clear hk hj hj7 hlt h7
        go_wp2_with fail
        refine (lives_any wr).mono ?_
        rintro e w8 ⟨rfl, g8⟩
        go_wp2
        go_ret
        exact ⟨rfl, HG.out.trans g8⟩
    · have hlt' : ¬ (j : Int) < (ls.length : Int) := by omega
      have HG : Hid (Grow w wr) := HL.out.2.2.2.2.2.2.2.1
      clear hk hj hj7 hlt
      go_wp2_with fail
      refine (lives_any wr).mono ?_
      rintro e w8 ⟨rfl, g8⟩
      go_wp2
      go_ret
      exact ⟨rfl, HG.out.trans g8⟩
end Go.Proofs.Ytoobohbghobfhaa
