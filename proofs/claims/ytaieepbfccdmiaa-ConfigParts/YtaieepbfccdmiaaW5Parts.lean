/-
  The walk of the law ConfigParts. Conditions: the theorem's own.
-/
import Derived.Test.YtaieepbfccdmiaaCfgFew
namespace Go.Proofs.Ytaieepbfccdmiaa
open Go.RowKit
set_option linter.unusedVariables false
set_option linter.unusedSimpArgs false

/-- parts of a frame and a page each, side by side -/
def plP (n : Nat) : List Pt := (List.range n).map (fun i : Nat => (⟨1, 2 * (i : Int), 1⟩ : Pt))
theorem plP_length (n : Nat) : (plP n).length = n := by simp [plP]
theorem plP_next (n : Nat) : plP (n + 1) = plP n ++ [⟨1, 2 * (n : Int), 1⟩] := by simp [plP, List.range_succ]
theorem plP_get {n i : Nat} (h : i < n) : (plP n).getD i Pt.zero = ⟨1, 2 * (i : Int), 1⟩ := by simp [plP, List.getD, h]
theorem plP_qsum (n : Nat) : qsum (plP n) = n := by
  induction n with
  | zero => rfl
  | succ n ih => rw [plP_next, qsum_append, ih]; simp [qsum]
theorem plP_faults {n : Nat} (hn : n ≤ 16) : ∀ i, i < (plP n).length → faultAt 64 (plP n) i = 0 := by
  intro i hi
  have hi' := hi
  rw [plP_length] at hi'
  have e := plP_get hi'
  refine faultAt_no ?_ hi (fun j hj => ?_)
  · rw [e]
    exact ownF_of ⟨by show (1 : Int) ≤ 1; omega, by show (1 : Int) ≤ 64; omega, by show (1 : Int) ≤ 1; omega, by show (1 : Int) ≤ 64; omega, by show (0 : Int) ≤ 2 * (i : Int); omega, by show 2 * (i : Int) + 2 * 1 ≤ 64; omega⟩
  · rw [e, plP_get (show j < n by omega)]
    unfold meetB
    rw [Bool.and_eq_false_iff, decide_eq_false_iff_not, decide_eq_false_iff_not]
    right
    show ¬ 2 * (i : Int) < 2 * (j : Int) + 2 * 1
    omega
theorem plP_ok {n : Nat} (h1 : 1 ≤ n) (h2 : n ≤ 16) : ck n 1 64 (plP n) = (0, 0) := by
  refine ck_ok (numF_of ?_) ?_ (plP_qsum n)
  · rw [plP_length]; omega
  · have : pf 64 (plP n) = (0, 0) := pf_none (plP_faults h2) _ _ (by omega)
    rw [this]
theorem plP_bad {n : Nat} (h : ¬ (1 ≤ n ∧ n ≤ 16)) (M : Int) : ck M 1 64 (plP n) = (1, 0) := by
  have : numF (plP n).length M 1 64 = 1 := by rw [plP_length]; unfold numF; rw [if_pos h]
  rw [ck_num (by omega), this]

set_option maxHeartbeats 4000000 in
theorem configParts_none (n : Int) (K : Nat) (w : World) (har : ∀ w', Calls Try.prog 12 #[.int .i64 n, .int .i64 21] w' fun e w'' => e = .returned (.int .i64 (K : Int)) ∧ w' = w'') (h0 : K = 0) (hK : K ≤ 20) :
    Calls Try.prog 4 #[.int .i64 n] w fun e w' => e = .returned (.bool true) ∧ Below w.heap.size w w' := by
  obtain ⟨i0, hinf, hz0, hz1, hz2⟩ := info_parts infoP
  have HI : Hid (VarAt (w.alloc (.cells #[.int .i64 (1 : Int), .int .i64 (1 : Int), .int .i64 (64 : Int), .slice none 0 0] 24)) w.heap.size [.int .i64 (1 : Int), .int .i64 (1 : Int), .int .i64 (64 : Int), .slice none 0 0] ∧ Grow w (w.alloc (.cells #[.int .i64 (1 : Int), .int .i64 (1 : Int), .int .i64 (64 : Int), .slice none 0 0] 24))) := ⟨VarAt.new w [.int .i64 (1 : Int), .int .i64 (1 : Int), .int .i64 (64 : Int), .slice none 0 0] _, (Grow.refl w).alloc _⟩
  have t0 : (K : Int) ≤ 1 := by omega
  have hmax : max (K : Int) 1 = 1 := by omega
  have t1 : (K : Int) < 1 := by omega
  have t2 : ¬ (1 : Int) ≤ (K : Int) := by omega
  have HC : Hid (ck (1 : Int) 1 64 (plP K) = (1, 0)) := plP_bad (by omega) _
  have HK : Hid (K ≤ 20) := hK
  clear h0
  go_enter Try.func4, Try.ntmps4
  go_wp2_with fail
  refine (har _).mono ?_
  rintro e w' ⟨rfl, rfl⟩
  clear har
  go_wp2
  generalize (w.alloc (.cells #[.int .i64 (1 : Int), .int .i64 (1 : Int), .int .i64 (64 : Int), .slice none 0 0] 24)) = w1 at HI ⊢
  have HB4 : Hid (w.heap.size ≤ w.heap.size) := Nat.le_refl _
  obtain ⟨b4, hb4⟩ : ∃ b4, b4 = w.heap.size := ⟨_, rfl⟩
  have HB : Hid (b4 = w.heap.size) := hb4
  rw [← hb4] at HI ⊢
  clear hb4
  go_loopg [5] K (fun m iv wr => ∃ j : Nat, m = K - j ∧ j ≤ K ∧ iv = .int .i64 j ∧ Hid (∃ vv, VarAt wr b4 [.int .i64 (1 : Int), .int .i64 (1 : Int), .int .i64 (64 : Int), vv] ∧ OwnP (fun i => b4 < i) wr vv (plP j) ∧ Grow w wr))
  case atStart => exact ⟨0, by omega, by omega, rfl, .slice none 0 0, HI.out.1, OwnS.nil _ _ _ _ _, HI.out.2⟩
  case round =>
    clear HI
    obtain ⟨j, hk, hj, rfl, vv, X0⟩ := hrel
    by_cases hlt : j < K
    · exact absurd hlt (by omega)
    · have hle : ¬ (j : Int) < (K : Int) := by omega
      obtain rfl : K = j := by omega
      obtain ⟨a5, c5, rfl⟩ := X0.2.1.shape
      have hc := fun w' (g : Grow wr w') => check_any ((1 : Int)) 1 64 _ (plP K) w' (RdS.grow X0.2.1.rd g)
      have hm := fun w' (g : Grow wr w') => may_any ((1 : Int)) 1 64 _ (plP K) w' (RdS.grow X0.2.1.rd g)
      rw [HC.out] at hc hm
      simp only [wh] at hc
      have X1 : Hid (VarAt wr b4 [.int .i64 (1 : Int), .int .i64 (1 : Int), .int .i64 (64 : Int), .slice a5 (plP K).length c5] ∧ Grow w wr) := ⟨X0.1, X0.2.2⟩
      clear X0 hk hj hlt
      generalize (plP K).length = L at X1 hc hm ⊢
      obtain ⟨⟨m0, m1, m2, m3⟩, -⟩ := X1.out.1.four
      go_wp2_with fail
      refine (hc _ (Grow.refl _)).mono ?_
      rintro e w4 ⟨rfl, g4⟩
      obtain ⟨⟨n0, n1, n2, n3⟩, -⟩ := (X1.out.1.grow g4).four
      go_wp2_with fail
      refine (hm _ g4).mono ?_
      rintro e w5 ⟨rfl, g5⟩
      go_wp2_with fail
      refine (lives_any w5).mono ?_
      rintro e w6 ⟨rfl, g6⟩
      go_wp2
      go_ret
      exact ⟨by first | rfl | exact ret_bool (by simp; omega), ((X1.out.2.trans g4).trans g5).trans g6⟩

set_option maxHeartbeats 4000000 in
theorem configParts_few (n : Int) (K : Nat) (w : World) (har : ∀ w', Calls Try.prog 12 #[.int .i64 n, .int .i64 21] w' fun e w'' => e = .returned (.int .i64 (K : Int)) ∧ w' = w'') (h0 : 1 ≤ K) (h16 : K ≤ 16) (hK : K ≤ 20) :
    Calls Try.prog 4 #[.int .i64 n] w fun e w' => e = .returned (.bool true) ∧ Below w.heap.size w w' := by
  obtain ⟨i0, hinf, hz0, hz1, hz2⟩ := info_parts infoP
  have HI : Hid (VarAt (w.alloc (.cells #[.int .i64 (K : Int), .int .i64 (1 : Int), .int .i64 (64 : Int), .slice none 0 0] 24)) w.heap.size [.int .i64 (K : Int), .int .i64 (1 : Int), .int .i64 (64 : Int), .slice none 0 0] ∧ Grow w (w.alloc (.cells #[.int .i64 (K : Int), .int .i64 (1 : Int), .int .i64 (64 : Int), .slice none 0 0] 24))) := ⟨VarAt.new w [.int .i64 (K : Int), .int .i64 (1 : Int), .int .i64 (64 : Int), .slice none 0 0] _, (Grow.refl w).alloc _⟩
  have t0 : (1 : Int) ≤ (K : Int) := by omega
  have hmax : max (K : Int) 1 = (K : Int) := by omega
  have t1 : ¬ (K : Int) < 1 := by omega
  have t2 : (K : Int) ≤ 16 := by omega
  have t3 : ¬ (16 : Int) < (K : Int) := by omega
  have HC : Hid (ck (K : Int) 1 64 (plP K) = (0, 0)) := plP_ok h0 h16
  have HK : Hid (K ≤ 20) := hK
  go_enter Try.func4, Try.ntmps4
  go_wp2_with fail
  refine (har _).mono ?_
  rintro e w' ⟨rfl, rfl⟩
  clear har
  go_wp2
  generalize (w.alloc (.cells #[.int .i64 (K : Int), .int .i64 (1 : Int), .int .i64 (64 : Int), .slice none 0 0] 24)) = w1 at HI ⊢
  have HB4 : Hid (w.heap.size ≤ w.heap.size) := Nat.le_refl _
  obtain ⟨b4, hb4⟩ : ∃ b4, b4 = w.heap.size := ⟨_, rfl⟩
  have HB : Hid (b4 = w.heap.size) := hb4
  rw [← hb4] at HI ⊢
  clear hb4
  go_loopg [5] K (fun m iv wr => ∃ j : Nat, m = K - j ∧ j ≤ K ∧ iv = .int .i64 j ∧ Hid (∃ vv, VarAt wr b4 [.int .i64 (K : Int), .int .i64 (1 : Int), .int .i64 (64 : Int), vv] ∧ OwnP (fun i => b4 < i) wr vv (plP j) ∧ Grow w wr))
  case atStart => exact ⟨0, by omega, by omega, rfl, .slice none 0 0, HI.out.1, OwnS.nil _ _ _ _ _, HI.out.2⟩
  case round =>
    clear HI
    obtain ⟨j, hk, hj, rfl, vv, X0⟩ := hrel
    by_cases hlt : j < K
    · have hle : (j : Int) < (K : Int) := by omega
      have HL : Hid (j < K ∧ gk = K - j) := ⟨hlt, hk⟩
      have hw1 : IntKind.i64.wrap ((j : Int) + 1) = (j : Int) + 1 := by rw [IntKind.wrap_i64]; omega
      have hw2 : IntKind.i64.wrap (2 * (j : Int)) = 2 * (j : Int) := by rw [IntKind.wrap_i64]; omega
      have hpl := plP_length j
      obtain ⟨a5, c5, rfl⟩ := X0.2.1.shape
      rw [hpl] at X0
      have Y1 : Hid (VarAt wr b4 [.int .i64 (K : Int), .int .i64 (1 : Int), .int .i64 (64 : Int), .slice a5 j c5] ∧ OwnP (fun i => b4 < i) wr (.slice a5 j c5) (plP j) ∧ Grow w wr) := X0
      have Z1 : Hid (Grow wr (wr.alloc (.cells #[.int .i64 1, .int .i64 (2 * (j : Int)), .int .i64 1] 35)) ∧ RdP (fun i => i = wr.heap.size) (wr.alloc (.cells #[.int .i64 1, .int .i64 (2 * (j : Int)), .int .i64 1] 35)) (.slice (some ⟨wr.heap.size, 0, none⟩) 1 1) [(⟨1, 2 * (j : Int), 1⟩ : Pt)]) := ⟨(Grow.refl wr).alloc _, rdS_new (f := Pt.cs) (k := 3) wr 35 [⟨1, 2 * (j : Int), 1⟩] Pt.cs_length (by simp only [List.length_singleton]; unfold maxLen; omega)⟩
      have hsrc := RdS.src (P := Try.prog) Z1.out.2 Pt.cs_length Pt.cs_one (tx := 22) Try.underlying22
      have hown := OwnS.grow Y1.out.2.1 Z1.out.1
      obtain ⟨⟨m0, m1, m2, m3⟩, -⟩ := Y1.out.1.four
      have hnx := plP_next j
      clear X0 hk hj
      generalize plP j = pj at hown hpl hnx Y1
      go_wp2_with (at_builtin; refine wpList_appS (f := Pt.cs) (k := 3) rfl (.tmp 19) (.tmp 23) 22 22 rfl Pt.cs_length (by omega) i0 (.agg #[.int .i64 0, .int .i64 0, .int .i64 0]) 24 Try.underlying22 hinf hz0 hz1 hz2 rfl rfl rfl hown hsrc (by simp only [maxLen, List.length_singleton]; omega) (by simp only [List.length_singleton]; omega) ?_)
      intro v6 w6 ho6 hu6
      have hsz6 := hu6.size
      rw [World.size_alloc] at hsz6
      have hb4 := Y1.out.1.lt
      have O6 : Hid (OwnP (fun i => b4 < i) w6 v6 (plP (j + 1))) := by
        rw [hnx]
        exact OwnS.mono ho6 (fun i hi h => by
          rcases h with h | h
          · exact h
          · have h' : i = wr.heap.size + 1 := h
            omega)
      obtain ⟨a6, c6, hv6⟩ := O6.out.shape
      rw [plP_length] at hv6
      subst hv6
      have U6 : Hid (UpdS (fun i => b4 < i) wr w6) := (Z1.out.1.s).trans hu6
      clear ho6 hu6 hsz6 hsrc hown Z1 m0 m1 m2 m3 hnx
      have Y3 : Hid (VarAt w6 b4 [.int .i64 (K : Int), .int .i64 (1 : Int), .int .i64 (64 : Int), .slice a5 j c5] ∧ Grow w w6) := ⟨Y1.out.1.upd U6.out (by omega), UpdS.new Y1.out.2.2 U6.out (fun i hi => by have := HB.out; omega)⟩
      clear Y1 U6
      obtain ⟨⟨m0, m1, m2, m3⟩, f0, f1, f2, f3⟩ := Y3.out.1.four
      have Y4 : Hid (VarAt (w6.setCell ⟨b4, 3, none⟩ (.slice a6 (j + 1) c6)) b4 [.int .i64 (K : Int), .int .i64 (1 : Int), .int .i64 (64 : Int), .slice a6 (j + 1) c6] ∧ OwnP (fun i => b4 < i) (w6.setCell ⟨b4, 3, none⟩ (.slice a6 (j + 1) c6)) (.slice a6 (j + 1) c6) (plP (j + 1)) ∧ Grow w (w6.setCell ⟨b4, 3, none⟩ (.slice a6 (j + 1) c6))) :=
        ⟨Y3.out.1.set 3 _, OwnS.upd O6.out (upd_one w6 b4 3 _) (fun i _ hi => by omega), UpdS.new Y3.out.2 (upd_one w6 b4 3 _) (fun i hi => by have := HB.out; omega)⟩
      go_wp2
      go_roundg (K - (j + 1))
      case measure => have := HL.out; omega
      case rel => exact ⟨j + 1, rfl, HL.out.1, by go_num, _, Y4.out⟩
    · have hle : ¬ (j : Int) < (K : Int) := by omega
      obtain rfl : K = j := by omega
      obtain ⟨a5, c5, rfl⟩ := X0.2.1.shape
      have hc := fun w' (g : Grow wr w') => check_any ((K : Int)) 1 64 _ (plP K) w' (RdS.grow X0.2.1.rd g)
      have hm := fun w' (g : Grow wr w') => may_any ((K : Int)) 1 64 _ (plP K) w' (RdS.grow X0.2.1.rd g)
      rw [HC.out] at hc hm
      simp only [wh] at hc
      have X1 : Hid (VarAt wr b4 [.int .i64 (K : Int), .int .i64 (1 : Int), .int .i64 (64 : Int), .slice a5 (plP K).length c5] ∧ Grow w wr) := ⟨X0.1, X0.2.2⟩
      clear X0 hk hj hlt
      generalize (plP K).length = L at X1 hc hm ⊢
      obtain ⟨⟨m0, m1, m2, m3⟩, -⟩ := X1.out.1.four
      go_wp2_with fail
      refine (hc _ (Grow.refl _)).mono ?_
      rintro e w4 ⟨rfl, g4⟩
      obtain ⟨⟨n0, n1, n2, n3⟩, -⟩ := (X1.out.1.grow g4).four
      go_wp2_with fail
      refine (hm _ g4).mono ?_
      rintro e w5 ⟨rfl, g5⟩
      go_wp2_with fail
      refine (lives_any w5).mono ?_
      rintro e w6 ⟨rfl, g6⟩
      go_wp2
      go_ret
      exact ⟨by first | rfl | exact ret_bool (by simp; omega), ((X1.out.2.trans g4).trans g5).trans g6⟩

set_option maxHeartbeats 4000000 in
theorem configParts_many (n : Int) (K : Nat) (w : World) (har : ∀ w', Calls Try.prog 12 #[.int .i64 n, .int .i64 21] w' fun e w'' => e = .returned (.int .i64 (K : Int)) ∧ w' = w'') (h16 : 16 < K) (hK : K ≤ 20) :
    Calls Try.prog 4 #[.int .i64 n] w fun e w' => e = .returned (.bool true) ∧ Below w.heap.size w w' := by
  obtain ⟨i0, hinf, hz0, hz1, hz2⟩ := info_parts infoP
  have HI : Hid (VarAt (w.alloc (.cells #[.int .i64 (K : Int), .int .i64 (1 : Int), .int .i64 (64 : Int), .slice none 0 0] 24)) w.heap.size [.int .i64 (K : Int), .int .i64 (1 : Int), .int .i64 (64 : Int), .slice none 0 0] ∧ Grow w (w.alloc (.cells #[.int .i64 (K : Int), .int .i64 (1 : Int), .int .i64 (64 : Int), .slice none 0 0] 24))) := ⟨VarAt.new w [.int .i64 (K : Int), .int .i64 (1 : Int), .int .i64 (64 : Int), .slice none 0 0] _, (Grow.refl w).alloc _⟩
  have t0 : (1 : Int) ≤ (K : Int) := by omega
  have hmax : max (K : Int) 1 = (K : Int) := by omega
  have t1 : ¬ (K : Int) < 1 := by omega
  have t2 : ¬ (K : Int) ≤ 16 := by omega
  have t3 : (16 : Int) < (K : Int) := by omega
  have HC : Hid (ck (K : Int) 1 64 (plP K) = (1, 0)) := plP_bad (by omega) _
  have HK : Hid (K ≤ 20) := hK
  go_enter Try.func4, Try.ntmps4
  go_wp2_with fail
  refine (har _).mono ?_
  rintro e w' ⟨rfl, rfl⟩
  clear har
  go_wp2
  generalize (w.alloc (.cells #[.int .i64 (K : Int), .int .i64 (1 : Int), .int .i64 (64 : Int), .slice none 0 0] 24)) = w1 at HI ⊢
  have HB4 : Hid (w.heap.size ≤ w.heap.size) := Nat.le_refl _
  obtain ⟨b4, hb4⟩ : ∃ b4, b4 = w.heap.size := ⟨_, rfl⟩
  have HB : Hid (b4 = w.heap.size) := hb4
  rw [← hb4] at HI ⊢
  clear hb4
  go_loopg [5] K (fun m iv wr => ∃ j : Nat, m = K - j ∧ j ≤ K ∧ iv = .int .i64 j ∧ Hid (∃ vv, VarAt wr b4 [.int .i64 (K : Int), .int .i64 (1 : Int), .int .i64 (64 : Int), vv] ∧ OwnP (fun i => b4 < i) wr vv (plP j) ∧ Grow w wr))
  case atStart => exact ⟨0, by omega, by omega, rfl, .slice none 0 0, HI.out.1, OwnS.nil _ _ _ _ _, HI.out.2⟩
  case round =>
    clear HI
    obtain ⟨j, hk, hj, rfl, vv, X0⟩ := hrel
    by_cases hlt : j < K
    · have hle : (j : Int) < (K : Int) := by omega
      have HL : Hid (j < K ∧ gk = K - j) := ⟨hlt, hk⟩
      have hw1 : IntKind.i64.wrap ((j : Int) + 1) = (j : Int) + 1 := by rw [IntKind.wrap_i64]; omega
      have hw2 : IntKind.i64.wrap (2 * (j : Int)) = 2 * (j : Int) := by rw [IntKind.wrap_i64]; omega
      have hpl := plP_length j
      obtain ⟨a5, c5, rfl⟩ := X0.2.1.shape
      rw [hpl] at X0
      have Y1 : Hid (VarAt wr b4 [.int .i64 (K : Int), .int .i64 (1 : Int), .int .i64 (64 : Int), .slice a5 j c5] ∧ OwnP (fun i => b4 < i) wr (.slice a5 j c5) (plP j) ∧ Grow w wr) := X0
      have Z1 : Hid (Grow wr (wr.alloc (.cells #[.int .i64 1, .int .i64 (2 * (j : Int)), .int .i64 1] 35)) ∧ RdP (fun i => i = wr.heap.size) (wr.alloc (.cells #[.int .i64 1, .int .i64 (2 * (j : Int)), .int .i64 1] 35)) (.slice (some ⟨wr.heap.size, 0, none⟩) 1 1) [(⟨1, 2 * (j : Int), 1⟩ : Pt)]) := ⟨(Grow.refl wr).alloc _, rdS_new (f := Pt.cs) (k := 3) wr 35 [⟨1, 2 * (j : Int), 1⟩] Pt.cs_length (by simp only [List.length_singleton]; unfold maxLen; omega)⟩
      have hsrc := RdS.src (P := Try.prog) Z1.out.2 Pt.cs_length Pt.cs_one (tx := 22) Try.underlying22
      have hown := OwnS.grow Y1.out.2.1 Z1.out.1
      obtain ⟨⟨m0, m1, m2, m3⟩, -⟩ := Y1.out.1.four
      have hnx := plP_next j
      clear X0 hk hj
      generalize plP j = pj at hown hpl hnx Y1
      go_wp2_with (at_builtin; refine wpList_appS (f := Pt.cs) (k := 3) rfl (.tmp 19) (.tmp 23) 22 22 rfl Pt.cs_length (by omega) i0 (.agg #[.int .i64 0, .int .i64 0, .int .i64 0]) 24 Try.underlying22 hinf hz0 hz1 hz2 rfl rfl rfl hown hsrc (by simp only [maxLen, List.length_singleton]; omega) (by simp only [List.length_singleton]; omega) ?_)
      intro v6 w6 ho6 hu6
      have hsz6 := hu6.size
      rw [World.size_alloc] at hsz6
      have hb4 := Y1.out.1.lt
      have O6 : Hid (OwnP (fun i => b4 < i) w6 v6 (plP (j + 1))) := by
        rw [hnx]
        exact OwnS.mono ho6 (fun i hi h => by
          rcases h with h | h
          · exact h
          · have h' : i = wr.heap.size + 1 := h
            omega)
      obtain ⟨a6, c6, hv6⟩ := O6.out.shape
      rw [plP_length] at hv6
      subst hv6
      have U6 : Hid (UpdS (fun i => b4 < i) wr w6) := (Z1.out.1.s).trans hu6
      clear ho6 hu6 hsz6 hsrc hown Z1 m0 m1 m2 m3 hnx
      have Y3 : Hid (VarAt w6 b4 [.int .i64 (K : Int), .int .i64 (1 : Int), .int .i64 (64 : Int), .slice a5 j c5] ∧ Grow w w6) := ⟨Y1.out.1.upd U6.out (by omega), UpdS.new Y1.out.2.2 U6.out (fun i hi => by have := HB.out; omega)⟩
      clear Y1 U6
      obtain ⟨⟨m0, m1, m2, m3⟩, f0, f1, f2, f3⟩ := Y3.out.1.four
      have Y4 : Hid (VarAt (w6.setCell ⟨b4, 3, none⟩ (.slice a6 (j + 1) c6)) b4 [.int .i64 (K : Int), .int .i64 (1 : Int), .int .i64 (64 : Int), .slice a6 (j + 1) c6] ∧ OwnP (fun i => b4 < i) (w6.setCell ⟨b4, 3, none⟩ (.slice a6 (j + 1) c6)) (.slice a6 (j + 1) c6) (plP (j + 1)) ∧ Grow w (w6.setCell ⟨b4, 3, none⟩ (.slice a6 (j + 1) c6))) :=
        ⟨Y3.out.1.set 3 _, OwnS.upd O6.out (upd_one w6 b4 3 _) (fun i _ hi => by omega), UpdS.new Y3.out.2 (upd_one w6 b4 3 _) (fun i hi => by have := HB.out; omega)⟩
      go_wp2
      go_roundg (K - (j + 1))
      case measure => have := HL.out; omega
      case rel => exact ⟨j + 1, rfl, HL.out.1, by go_num, _, Y4.out⟩
    · have hle : ¬ (j : Int) < (K : Int) := by omega
      obtain rfl : K = j := by omega
      obtain ⟨a5, c5, rfl⟩ := X0.2.1.shape
      have hc := fun w' (g : Grow wr w') => check_any ((K : Int)) 1 64 _ (plP K) w' (RdS.grow X0.2.1.rd g)
      have hm := fun w' (g : Grow wr w') => may_any ((K : Int)) 1 64 _ (plP K) w' (RdS.grow X0.2.1.rd g)
      rw [HC.out] at hc hm
      simp only [wh] at hc
      have X1 : Hid (VarAt wr b4 [.int .i64 (K : Int), .int .i64 (1 : Int), .int .i64 (64 : Int), .slice a5 (plP K).length c5] ∧ Grow w wr) := ⟨X0.1, X0.2.2⟩
      clear X0 hk hj hlt
      generalize (plP K).length = L at X1 hc hm ⊢
      obtain ⟨⟨m0, m1, m2, m3⟩, -⟩ := X1.out.1.four
      go_wp2_with fail
      refine (hc _ (Grow.refl _)).mono ?_
      rintro e w4 ⟨rfl, g4⟩
      obtain ⟨⟨n0, n1, n2, n3⟩, -⟩ := (X1.out.1.grow g4).four
      go_wp2_with fail
      refine (hm _ g4).mono ?_
      rintro e w5 ⟨rfl, g5⟩
      go_wp2_with fail
      refine (lives_any w5).mono ?_
      rintro e w6 ⟨rfl, g6⟩
      go_wp2
      go_ret
      exact ⟨by first | rfl | exact ret_bool (by simp; omega), ((X1.out.2.trans g4).trans g5).trans g6⟩

theorem configParts_walk (n : Int) (w : World) (hn : (Lit.int .i64 n).wf = true) :
    Calls Try.prog 4 #[.int .i64 n] w fun e w' => e = .returned (.bool true) ∧ Below w.heap.size w w' := by
  have hA := around_bd n 21 (by omega)
  obtain ⟨K, hK⟩ := Int.eq_ofNat_of_zero_le hA.1
  have har : ∀ w', Calls Try.prog 12 #[.int .i64 n, .int .i64 21] w' fun e w'' => e = .returned (.int .i64 (K : Int)) ∧ w' = w'' := fun w' => by
    have := around_any n 21 w' hn (by omega) (by omega)
    rw [hK] at this
    exact this
  by_cases h0 : K = 0
  · exact configParts_none n K w har h0 (by omega)
  · by_cases h16 : K ≤ 16
    · exact configParts_few n K w har (by omega) h16 (by omega)
    · exact configParts_many n K w har (by omega) (by omega)
end Go.Proofs.Ytaieepbfccdmiaa
