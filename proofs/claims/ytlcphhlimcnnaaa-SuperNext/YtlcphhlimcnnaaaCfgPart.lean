/-
  The walk of partFault. Conditions: the theorem's own.
-/
import Derived.Test.YtlcphhlimcnnaaaCfgMeet
namespace Go.Proofs.Ytlcphhlimcnnaaa
open Go.RowKit
set_option linter.unusedVariables false
set_option linter.unusedSimpArgs false

theorem wh_none : (wh 0).toList.isEmpty = true := by simp [wh]
theorem wh_some {k : Nat} (h : k ≠ 0) : (wh k).toList.isEmpty = false := by
  rw [ByteArray.toList_eq]
  match k, h with
  | 0, h => exact absurd rfl h
  | 1, _ => rfl
  | 2, _ => rfl
  | 3, _ => rfl
  | 4, _ => rfl
  | 5, _ => rfl
  | 6, _ => rfl
  | 7, _ => rfl
  | 8, _ => rfl
  | n + 9, _ => rfl
theorem ret_pair {s t : ByteArray} {a b : Int} (h : s = t) (k : a = b) : Ending.returned (.tuple #[.string s, .int .i64 a]) = .returned (.tuple #[.string t, .int .i64 b]) := by rw [h, k]

set_option maxHeartbeats 4000000 in
theorem part_any {p : Nat → Prop} (fr dp se : Int) (v : Value) (ps : List Pt) (w : World) (h : RdP p w v ps) (hse : 1 ≤ se ∧ se ≤ 1024) (hn : ps.length ≤ 16) :
    Calls Try.prog 53 #[.agg #[.int .i64 fr, .int .i64 dp, .int .i64 se, v]] w fun e w' => e = .returned (.tuple #[.string (wh (pf se ps).1), .int .i64 (pf se ps).2]) ∧ Grow w w' := by
  have HR : Hid (RdP p w v ps ∧ 1 ≤ se ∧ se ≤ 1024) := ⟨h, hse⟩
  have HI : Hid (VarAt (w.alloc (.cells #[.int .i64 fr, .int .i64 dp, .int .i64 se, v] 24)) w.heap.size [.int .i64 fr, .int .i64 dp, .int .i64 se, v] ∧ Grow w (w.alloc (.cells #[.int .i64 fr, .int .i64 dp, .int .i64 se, v] 24))) := ⟨VarAt.new w [.int .i64 fr, .int .i64 dp, .int .i64 se, v] _, (Grow.refl w).alloc _⟩
  obtain ⟨a, cp, rfl, h1, h2, -⟩ := h
  unfold maxLen at h2
  clear hse
  go_enter Try.func53, Try.ntmps53
  go_wp2
  go_step3
  go_wp2
  go_step3
  go_wp2
  generalize w.alloc (.cells #[.int .i64 fr, .int .i64 dp, .int .i64 se, .slice a ps.length cp] 24) = w1 at HI ⊢
  generalize w.heap.size = b1 at HI ⊢
  go_loopg [12] ps.length (fun m iv wr => ∃ j : Nat, m = ps.length - j ∧ j ≤ ps.length ∧ iv = .int .i64 j ∧ Hid (VarAt wr b1 [.int .i64 fr, .int .i64 dp, .int .i64 se, .slice a ps.length cp] ∧ Grow w wr ∧ (∀ i, i < j → faultAt se ps i = 0) ∧ pfFrom se ps (ps.length - j) j = pf se ps))
  case atStart => exact ⟨0, by omega, by omega, rfl, HI.out.1, HI.out.2, fun i hi => absurd hi (Nat.not_lt_zero _), rfl⟩
  case round =>
    obtain ⟨j, hk, hj, rfl, X⟩ := hrel
    by_cases hlt : j < ps.length
    · have hle : (j : Int) < (ps.length : Int) := by omega
      have HL : Hid (j < ps.length ∧ gk = ps.length - j) := ⟨hlt, hk⟩
      have hw1 : IntKind.i64.wrap ((j : Int) + 1) = (j : Int) + 1 := by rw [IntKind.wrap_i64]; omega
      obtain ⟨bb, oo, rfl, _, _, hin⟩ := rdP_at HR.out.1 hlt
      have hin' := hin.grow X.out.2.1
      have hown := fun w' => own_any (ps.getD j Pt.zero) se w' HR.out.2
      have HF : Hid ((ownF (ps.getD j Pt.zero) se ≠ 0 → faultAt se ps j = ownF (ps.getD j Pt.zero) se) ∧ (ownF (ps.getD j Pt.zero) se = 0 → (∀ i, i < j → meetB (ps.getD i Pt.zero) (ps.getD j Pt.zero) = false) → faultAt se ps j = 0) ∧ (ownF (ps.getD j Pt.zero) se = 0 → ∀ i, i < j → meetB (ps.getD i Pt.zero) (ps.getD j Pt.zero) = true → faultAt se ps j = 8)) :=
        ⟨faultAt_own, fun ho hm => faultAt_no ho hlt hm, fun ho i hi hm => faultAt_meet ho hi hlt hm⟩
      generalize ps.getD j Pt.zero = d at hin' hown HF
      clear hin hk hj hlt
      obtain ⟨k0, k1, k2⟩ := hin'
      obtain ⟨⟨m0, m1, m2, m3⟩, -⟩ := X.out.1.four
      have X1 : Hid (VarAt (wr.alloc (.cells #[.int .i64 d.q, .int .i64 d.b, .int .i64 d.g] 57)) b1 [.int .i64 fr, .int .i64 dp, .int .i64 se, .slice (some ⟨bb, oo, none⟩) ps.length cp] ∧ VarAt (wr.alloc (.cells #[.int .i64 d.q, .int .i64 d.b, .int .i64 d.g] 57)) wr.heap.size [.int .i64 d.q, .int .i64 d.b, .int .i64 d.g] ∧ Grow w (wr.alloc (.cells #[.int .i64 d.q, .int .i64 d.b, .int .i64 d.g] 57)) ∧ (∀ i, i < j → faultAt se ps i = 0) ∧ pfFrom se ps (ps.length - j) j = pf se ps) :=
        ⟨X.out.1.grow ((Grow.refl _).alloc _), VarAt.new wr [.int .i64 d.q, .int .i64 d.b, .int .i64 d.g] _, X.out.2.1.alloc _, X.out.2.2⟩
      clear X
      obtain ⟨⟨n0, n1, n2, n3⟩, -⟩ := X1.out.1.four
      clear m0 m1 m2 m3
      by_cases ho : ownF d se = 0
      · rw [ho] at hown
        have HO : Hid (ownF d se = 0) := ho
        clear ho
        have hne := wh_none
        generalize wh 0 = s0 at hown hne
        have HB : Hid (0 ≤ d.g ∧ d.g ≤ 1000 ∧ 0 ≤ d.b ∧ d.b ≤ 100000) := by
          have := ownF_zero HO.out
          have := HR.out.2
          exact ⟨by omega, by omega, by omega, by omega⟩
        go_wp2_with fail
        refine (hown _).mono ?_
        rintro e w2 ⟨rfl, g2⟩
        have X2 : Hid (VarAt w2 b1 [.int .i64 fr, .int .i64 dp, .int .i64 se, .slice (some ⟨bb, oo, none⟩) ps.length cp] ∧ VarAt w2 wr.heap.size [.int .i64 d.q, .int .i64 d.b, .int .i64 d.g] ∧ Grow w w2 ∧ (∀ i, i < j → faultAt se ps i = 0) ∧ pfFrom se ps (ps.length - j) j = pf se ps) :=
          ⟨X1.out.1.grow g2, X1.out.2.1.grow g2, X1.out.2.2.1.trans g2, X1.out.2.2.2⟩
        clear X1 k0 k1 k2 n0 n1 n2 n3 hown
        generalize wr.heap.size = b5 at X2 ⊢
        clear g2
        clear wr
        obtain ⟨⟨m0, m1, m2, m3⟩, -⟩ := X2.out.1.four
        go_wp2
        clear m0 m1 m2 m3
        go_loopg [28] j (fun m iv wr => ∃ i : Nat, m = j - i ∧ i ≤ j ∧ iv = .int .i64 i ∧ Hid (VarAt wr b1 [.int .i64 fr, .int .i64 dp, .int .i64 se, .slice (some ⟨bb, oo, none⟩) ps.length cp] ∧ VarAt wr b5 [.int .i64 d.q, .int .i64 d.b, .int .i64 d.g] ∧ Grow w wr ∧ (∀ i', i' < i → meetB (ps.getD i' Pt.zero) d = false)))
        case atStart => exact ⟨0, by omega, by omega, rfl, X2.out.1, X2.out.2.1, X2.out.2.2.1, fun i hi => absurd hi (Nat.not_lt_zero _)⟩
        case round =>
          obtain ⟨i, hk, hj, rfl, Y⟩ := hrel
          have HK2 : Hid (gk = j - i ∧ i ≤ j) := ⟨hk, hj⟩
          have hil : i < ps.length := by have := HL.out.1; omega
          have hle2 : (i : Int) < (ps.length : Int) := by omega
          have hw2 : IntKind.i64.wrap ((i : Int) + 1) = (i : Int) + 1 := by rw [IntKind.wrap_i64]; omega
          obtain ⟨bb', oo', he', _, _, hin⟩ := rdP_at HR.out.1 hil
          injection he' with he'
          injection he' with eb eo
          subst eb; subst eo
          have hin' := hin.grow Y.out.2.2.1
          clear hin
          have HX : Hid (VarAt (wr.alloc (.cells #[.int .i64 (ps.getD i Pt.zero).q, .int .i64 (ps.getD i Pt.zero).b, .int .i64 (ps.getD i Pt.zero).g] 57)) b1 [.int .i64 fr, .int .i64 dp, .int .i64 se, .slice (some ⟨bb, oo, none⟩) ps.length cp] ∧ VarAt (wr.alloc (.cells #[.int .i64 (ps.getD i Pt.zero).q, .int .i64 (ps.getD i Pt.zero).b, .int .i64 (ps.getD i Pt.zero).g] 57)) b5 [.int .i64 d.q, .int .i64 d.b, .int .i64 d.g] ∧ Grow w (wr.alloc (.cells #[.int .i64 (ps.getD i Pt.zero).q, .int .i64 (ps.getD i Pt.zero).b, .int .i64 (ps.getD i Pt.zero).g] 57)) ∧ VarAt (wr.alloc (.cells #[.int .i64 (ps.getD i Pt.zero).q, .int .i64 (ps.getD i Pt.zero).b, .int .i64 (ps.getD i Pt.zero).g] 57)) wr.heap.size [.int .i64 (ps.getD i Pt.zero).q, .int .i64 (ps.getD i Pt.zero).b, .int .i64 (ps.getD i Pt.zero).g]) :=
            ⟨Y.out.1.grow ((Grow.refl _).alloc _), Y.out.2.1.grow ((Grow.refl _).alloc _), Y.out.2.2.1.alloc _, VarAt.new wr [.int .i64 (ps.getD i Pt.zero).q, .int .i64 (ps.getD i Pt.zero).b, .int .i64 (ps.getD i Pt.zero).g] _⟩
          by_cases hij : i = j
          · have hq : ((i : Int) == (j : Int)) = true := by simp [hij]
            have HE : Hid (i = j) := hij
            have HP : Hid (faultAt se ps j = 0) := HF.out.2.1 HO.out (fun i' hi' => Y.out.2.2.2 i' (by omega))
            clear hij hk hj hil
            generalize ps.getD i Pt.zero = x at hin' HX
            obtain ⟨k0, k1, k2⟩ := hin'
            go_wp2
            go_roundg (ps.length - (j + 1))
            case measure => have := HL.out; omega
            case rel =>
              exact ⟨j + 1, rfl, HL.out.1, by go_num, HX.out.1, HX.out.2.2.1, fun i' hi' => by
                by_cases e : i' = j
                · rw [e]; exact HP.out
                · exact X2.out.2.2.2.1 i' (by omega), by rw [← pf_step HL.out.1 HP.out]; exact X2.out.2.2.2.2⟩
          · have hq : ((i : Int) == (j : Int)) = false := by simp; omega
            have hlt2 : i < j := by omega
            have hxb : 0 ≤ (ps.getD i Pt.zero).g ∧ (ps.getD i Pt.zero).g ≤ 1000 ∧ 0 ≤ (ps.getD i Pt.zero).b ∧ (ps.getD i Pt.zero).b ≤ 100000 := by
              have := ownF_zero (faultAt_zero hil (X2.out.2.2.2.1 i hlt2)).1
              have := HR.out.2
              exact ⟨by omega, by omega, by omega, by omega⟩
            have hme := fun w' => meet_any (ps.getD i Pt.zero) d w' hxb HB.out
            have HM : Hid ((meetB (ps.getD i Pt.zero) d = true → faultAt se ps j = 8) ∧ (meetB (ps.getD i Pt.zero) d = false → ∀ i', i' < i + 1 → meetB (ps.getD i' Pt.zero) d = false)) :=
              ⟨fun hm => HF.out.2.2 HO.out i hlt2 hm, fun hm i' hi' => by
                by_cases e : i' = i
                · rw [e]; exact hm
                · exact Y.out.2.2.2 i' (by omega)⟩
            have HK3 : Hid (i < j ∧ gk = j - i) := ⟨hlt2, hk⟩
            clear hij hk hj hil hlt2 hxb
            have hin2 : Hid (PIn wr bb (oo + i * 3) (ps.getD i Pt.zero)) := hin'
            clear hin'
            generalize ps.getD i Pt.zero = x at hin2 HX hme HM
            obtain ⟨k0, k1, k2⟩ := hin2.out
            obtain ⟨⟨d0, d1, d2⟩, -⟩ := HX.out.2.1.three
            cases hm : meetB x d with
            | true =>
              rw [hm] at hme
              have HP : Hid (pf se ps = (8, (j : Int))) := by
                have hf := HM.out.1 hm
                have := pf_hit HL.out.1 (by rw [hf]; omega)
                rw [X2.out.2.2.2.2, hf] at this; exact this
              clear hm
              go_wp2_with fail
              refine (hme _).mono ?_
              rintro e w3 ⟨rfl, g3⟩
              go_wp2
              try rw [Exit.noGoto_ret]
              go_ret2
              exact ⟨ret_pair (by rw [HP.out]; rfl) (by rw [HP.out]), HX.out.2.2.1.trans g3⟩
            | false =>
              rw [hm] at hme
              have HN : Hid (∀ i', i' < i + 1 → meetB (ps.getD i' Pt.zero) d = false) := HM.out.2 hm
              clear hm
              go_wp2_with fail
              refine (hme _).mono ?_
              rintro e w3 ⟨rfl, g3⟩
              go_wp2
              go_roundg (j - (i + 1))
              case measure => have := HK3.out; omega
              case rel => exact ⟨i + 1, rfl, by have := HK3.out; omega, by go_num, HX.out.1.grow g3, HX.out.2.1.grow g3, HX.out.2.2.1.trans g3, HN.out⟩
      · have HP : Hid (pf se ps = (ownF d se, (j : Int))) := by
          have hf := HF.out.1 ho
          have := pf_hit HL.out.1 (by rw [hf]; exact ho)
          rw [X1.out.2.2.2.2, hf] at this; exact this
        have hne := wh_some ho
        have HS : Hid (wh (pf se ps).1 = wh (ownF d se) ∧ (pf se ps).2 = (j : Int)) := by rw [HP.out]; exact ⟨rfl, rfl⟩
        clear ho
        generalize wh (ownF d se) = s0 at hown hne HS
        go_wp2_with fail
        refine (hown _).mono ?_
        rintro e w2 ⟨rfl, g2⟩
        go_wp2
        try rw [Exit.noGoto_ret]
        go_ret2
        exact ⟨ret_pair HS.out.1.symm HS.out.2.symm, X1.out.2.2.1.trans g2⟩
    · have hle : ¬ (j : Int) < (ps.length : Int) := by omega
      obtain rfl : j = ps.length := by omega
      have HP : Hid (pf se ps = (0, 0)) := by rw [← X.out.2.2.2]; exact pf_end
      go_wp2
      try rw [Exit.noGoto_ret]
      go_ret2
      exact ⟨ret_pair (by rw [HP.out]; rfl) (by rw [HP.out]), X.out.2.1⟩
end Go.Proofs.Ytlcphhlimcnnaaa
