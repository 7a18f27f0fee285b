/-
  The walks of the document's Find, With, New, Dirty, Flags, Kind, Frame, Bytes. Conditions: each theorem's own.
-/
import Derived.Test.YthdhfojogckflaaPrtL
import Derived.Test.YthdhfojogckflaaLast
import Derived.Test.YthdhfojogckflaaSched
import Derived.Test.YthdhfojogckflaaClkG
import Derived.Test.YthdhfojogckflaaCelA
import Derived.Test.YthdhfojogckflaaCrc
import Derived.Deep.LoopGhost
namespace Go.Proofs.Ythdhfojogckflaa
open Go.RowKit
set_option linter.unusedVariables false
set_option linter.unusedSimpArgs false

theorem load_P (b : Nat) (v : Value) (h : Int) (w : World) (hV : VarAt w b [v, .int .i64 h]) (hv : v.oneCell' = true) : (loadVar 30 ⟨b, 0, none⟩).run Try.prog w = .ok (.agg #[v, .int .i64 h]) w := by
  obtain ⟨⟨h0, h1⟩, -⟩ := hV.two
  cases v <;> simp [Value.oneCell'] at hv <;> go_simp

/-- what the document's Find tells -/
def fndQ (q : Int) (L : List FS) : Int := if fnd q L < L.length then (fnd q L : Int) else -1
theorem fndQ_yes {q : Int} {L : List FS} (h : fnd q L < L.length) : fndQ q L = (fnd q L : Int) := if_pos h
theorem fndQ_no {q : Int} {L : List FS} (h : ¬ fnd q L < L.length) : fndQ q L = -1 := if_neg h

set_option maxHeartbeats 2000000 in
theorem qfind_any {pq : Nat → Prop} (w : World) (a : Option Addr) (c : Nat) (L : List FS) (h : Int) (hr : RdQ pq w (.slice a L.length c) L) (hL : L.length ≤ 64) (q : Int) : Calls Try.prog 16 #[.agg #[.slice a L.length c, .int .i64 h], .int .i64 q] w fun e w' => e = .returned (.int .i64 (fndQ q L)) ∧ Grow w w' := by
  obtain ⟨W, hW⟩ : ∃ W, w.alloc (.cells #[.slice a L.length c, .int .i64 h] 30) = W := ⟨_, rfl⟩
  obtain ⟨X, hX⟩ : ∃ X, w.heap.size = X := ⟨_, rfl⟩
  have g0 : Grow w W := by rw [← hW]; exact (Grow.refl w).alloc _
  have V0 : VarAt W X [.slice a L.length c, .int .i64 h] := by rw [← hW, ← hX]; exact VarAt.new w [.slice a L.length c, .int .i64 h] 30
  obtain ⟨⟨v0, -⟩, -⟩ := V0.two
  have HR : Hid (RdQ pq W (.slice a L.length c) L ∧ Grow w W) := ⟨RdS.grow hr g0, g0⟩
  have HF : Hid (fnd q L ≤ L.length ∧ (∀ j, j < fnd q L → (L.getD j FS.empty).of q = false) ∧ (fnd q L < L.length → (L.getD (fnd q L) FS.empty).of q = true)) := ⟨fnd_le q L, fun j hj => fnd_not hj, fnd_of⟩
  clear hr g0 V0
  go_enter Try.func16, Try.ntmps16
  go_upto_region 1 with fail
  (try rw [hW])
  (try rw [hX])
  clear hW hX
  go_wp2
  go_loopg [5] L.length (fun m iv wr => ∃ j : Nat, m = L.length - j ∧ j ≤ L.length ∧ iv = .int .i64 j ∧ wr = W ∧ Hid (j ≤ fnd q L))
  case atStart => exact ⟨0, rfl, by omega, rfl, rfl, Nat.zero_le _⟩
  case round =>
    obtain ⟨j, hj, hj2, rfl, hww, HJ⟩ := hrel
    subst hww
    have HK : Hid (gk = L.length - j) := hj
    clear hj
    by_cases hlt : j < L.length
    · have hle : (j : Int) < (L.length : Int) := by omega
      obtain ⟨b, o, rfl⟩ := rdQ_addr HR.out.1 (by omega)
      obtain ⟨cu, -, -, -, cq, -⟩ := rdQ_in HR.out.1 hlt
      have hw0 : IntKind.i64.wrap ((j : Int) + 1) = ((j + 1 : Nat) : Int) := by rw [IntKind.wrap_i64]; omega
      have HO : Hid ((L.getD j FS.empty).of q = ((L.getD j FS.empty).u && ((L.getD j FS.empty).q == q))) := rfl
      have HI : Hid (j < L.length) := hlt
      obtain ⟨u, hu⟩ : ∃ u, (L.getD j FS.empty).u = u := ⟨_, rfl⟩
      obtain ⟨zq, hpq⟩ : ∃ zq, (L.getD j FS.empty).q = zq := ⟨_, rfl⟩
      rw [hu] at cu HO
      rw [hpq] at cq HO
      clear hu hpq
      have go_on : ∀ (ho : (L.getD j FS.empty).of q = false), j + 1 ≤ fnd q L := fun ho => by
        have h1 := HJ.out
        rcases Nat.lt_or_ge j (fnd q L) with h2 | h2
        · omega
        · have e : j = fnd q L := by omega
          have := HF.out.2.2 (by omega)
          rw [← e, ho] at this; cases this
      cases u with
      | false =>
        have HN : Hid (j + 1 ≤ fnd q L) := go_on HO.out
        clear go_on HO HJ hlt
        go_wp2
        go_roundg (L.length - (j + 1))
        case measure => have := HK.out; have := HI.out; omega
        case rel => exact ⟨j + 1, rfl, by have := HI.out; omega, by go_num, rfl, HN⟩
      | true =>
        cases hq : (zq == q) with
        | false =>
          have HN : Hid (j + 1 ≤ fnd q L) := go_on (by rw [HO.out, hq]; rfl)
          clear go_on HO HJ hlt
          go_wp2
          go_roundg (L.length - (j + 1))
          case measure => have := HK.out; have := HI.out; omega
          case rel => exact ⟨j + 1, rfl, by have := HI.out; omega, by go_num, rfl, HN⟩
        | true =>
          have HE : Hid (fnd q L = j) := by
            show fnd q L = j
            have h1 := HJ.out
            rcases Nat.lt_or_ge j (fnd q L) with h2 | h2
            · have h3 := HF.out.2.1 j h2
              rw [HO.out, hq] at h3; cases h3
            · omega
          clear go_on HO HJ hlt
          go_wp2
          go_ret
          refine ⟨?_, HR.out.2⟩
          have hf := fndQ_yes (q := q) (L := L) (by rw [HE.out]; exact HI.out)
          rw [hf, HE.out]; rfl
    · have HE : Hid (¬ fnd q L < L.length) := by show ¬ _; have := HJ.out; omega
      have hge : ¬ (j : Int) < (L.length : Int) := by omega
      clear hlt HJ
      go_wp2
      go_ret
      refine ⟨?_, HR.out.2⟩
      rw [fndQ_no HE.out]; rfl

set_option maxHeartbeats 2000000 in
theorem qdirty_any {pq : Nat → Prop} (w : World) (a : Option Addr) (c : Nat) (L : List FS) (h : Int) (hr : RdQ pq w (.slice a L.length c) L) (hL : L.length ≤ 64) : Calls Try.prog 42 #[.agg #[.slice a L.length c, .int .i64 h]] w fun e w' => ∃ v', e = .returned v' ∧ OwnV (Value.int .i64) 0 (fun i => w.heap.size ≤ i) w' v' (dirN L L.length) ∧ Grow w w' := by
  obtain ⟨i0, hi, hz0, hz1, hz2⟩ := info_parts infoTI
  obtain ⟨W, hW⟩ : ∃ W, w.alloc (.cells #[.slice a L.length c, .int .i64 h] 30) = W := ⟨_, rfl⟩
  obtain ⟨X, hX⟩ : ∃ X, w.heap.size = X := ⟨_, rfl⟩
  have g0 : Grow w W := by rw [← hW]; exact (Grow.refl w).alloc _
  have V0 : VarAt W X [.slice a L.length c, .int .i64 h] := by rw [← hW, ← hX]; exact VarAt.new w [.slice a L.length c, .int .i64 h] 30
  have HR : Hid (RdQ pq W (.slice a L.length c) L ∧ Grow w W ∧ VarAt W X [.slice a L.length c, .int .i64 h] ∧ w.heap.size = X) := ⟨RdS.grow hr g0, g0, V0, hX⟩
  clear hr g0 V0
  go_enter Try.func42, Try.ntmps42
  go_upto_region 2 with fail
  (try rw [hW])
  (try rw [hX])
  clear hW hX
  go_wp2
  go_loopg [3, 4] L.length (fun m dv iv wr => ∃ (j : Nat) (ad : Option Addr) (n cd : Nat), m = L.length - j ∧ j ≤ L.length ∧ dv = .slice ad n cd ∧ iv = .int .i64 j ∧ Hid (OwnV (Value.int .i64) 0 (fun i => W.heap.size ≤ i) wr (.slice ad n cd) (dirN L j) ∧ Grow W wr))
  case atStart => exact ⟨0, _, _, _, rfl, by omega, rfl, rfl, OwnV.nil _ _ _ _ _, Grow.refl _⟩
  case round =>
    obtain ⟨j, ad, n, cd, hj, hj2, rfl, rfl, HJ⟩ := hrel
    have HG : Hid (gk = L.length - j) := hj
    obtain ⟨⟨v0, -⟩, -⟩ := (HR.out.2.2.1.grow HJ.out.2).two
    clear hj
    by_cases hlt : j < L.length
    · have hle : (j : Int) < (L.length : Int) := by omega
      obtain ⟨b, o, rfl⟩ := rdQ_addr HR.out.1 (by omega)
      obtain ⟨-, cdd, -, -, -, -⟩ := rdQ_in (RdS.grow HR.out.1 HJ.out.2) hlt
      have HD : Hid (dirN L (j + 1) = dirN L j ++ (if (L.getD j FS.empty).d then [(j : Int)] else [])) := dirN_succ L j
      have hw0 : IntKind.i64.wrap ((j : Int) + 1) = ((j + 1 : Nat) : Int) := by rw [IntKind.wrap_i64]; omega
      have hdl := dirN_len L j
      generalize (L.getD j FS.empty).d = d at cdd HD
      generalize dirN L j = D at HD HJ hdl
      have HI : Hid (j < L.length) := hlt
      clear hlt
      cases d with
      | false =>
        have HN : Hid (dirN L (j + 1) = D) := by show _ = _; rw [HD.out]; simp
        go_wp2
        go_roundg (L.length - (j + 1))
        case measure => have := HG.out; have := HI.out; omega
        case rel => exact ⟨j + 1, _, _, _, rfl, by have := HI.out; omega, rfl, by go_num, by rw [HN.out]; exact HJ.out⟩
      | true =>
        have HN : Hid (dirN L (j + 1) = D ++ [(j : Int)]) := by show _ = _; rw [HD.out]; simp
        go_wp2_with (at_builtin; refine wpList_appV (f := Value.int .i64) (d := 0) (p := fun i => W.heap.size ≤ i) rfl (.tmp 18) (.tmp 20) 50 50 rfl i0 (.int .i64 0) 8 Try.underlying50 hi hz0 hz1 hz2 rfl rfl rfl (HJ.out.1.grow ((Grow.refl wr).alloc _)) (Src.oneV (w := wr) Try.underlying50 (Value.int .i64) (j : Int) rfl 3) (by simp only [maxLen, List.length_singleton]; omega) (by simp only [List.length_singleton]; omega) ?_)
        intro v1 w1 ho1 hu1
        have HW : Hid (OwnV (Value.int .i64) 0 (fun i => W.heap.size ≤ i) w1 v1 (dirN L (j + 1)) ∧ Grow W w1) := by
          have hg := HJ.out.2.size
          refine ⟨?_, UpdS.new (HJ.out.2.trans ((Grow.refl wr).alloc _)) hu1 (fun i hi => hi)⟩
          rw [HN.out]
          exact ho1.mono (fun i _ hi => by rcases hi with hi | hi; exact hi; omega)
        obtain ⟨a1, c1, hv1⟩ := ho1.shape
        generalize (D ++ [(j : Int)]).length = n1 at hv1
        subst hv1
        clear ho1 hu1 HN HD HJ
        go_wp2
        go_roundg (L.length - (j + 1))
        case measure => have := HG.out; have := HI.out; omega
        case rel => exact ⟨j + 1, _, _, _, rfl, by have := HI.out; omega, rfl, by go_num, HW.out⟩
    · obtain rfl : j = L.length := by omega
      go_wp2
      go_ret
      have hx := HR.out.2.1.size
      exact ⟨_, rfl, HJ.out.1.mono (fun i _ hi => by omega), HR.out.2.1.trans HJ.out.2⟩

set_option maxHeartbeats 2000000 in
theorem qwith_any {pq : Nat → Prop} (w : World) (a : Option Addr) (c : Nat) (L : List FS) (h : Int) (hr : RdQ pq w (.slice a L.length c) L) (hL : L.length ≤ 64) (i : Nat) (hi : i < L.length) (s : FS) : Calls Try.prog 60 #[.agg #[.slice a L.length c, .int .i64 h], .int .i64 i, .agg #[.bool s.u, .bool s.d, .bool s.r, .int .i64 s.p, .int .i64 s.q, .string (strOfNums s.bs)]] w fun e w' => ∃ a' c', e = .returned (.agg #[.slice a' L.length c', .int .i64 h]) ∧ RdQ (fun i => w.heap.size ≤ i) w' (.slice a' L.length c') (L.set i s) ∧ Grow w w' := by
  obtain ⟨i0, hinf, hz0, hz1, hz2⟩ := info_parts infoQ
  obtain ⟨W, hW⟩ : ∃ W, ((w.alloc (.cells #[.slice a L.length c, .int .i64 h] 30)).alloc (.cells #[.bool s.u, .bool s.d, .bool s.r, .int .i64 s.p, .int .i64 s.q, .string (strOfNums s.bs)] 68)).alloc (.cells #[.slice none 0 0, .int .i64 0] 30) = W := ⟨_, rfl⟩
  obtain ⟨X, hX⟩ : ∃ X, w.heap.size = X := ⟨_, rfl⟩
  have g0 : Grow w W := by rw [← hW]; exact (((Grow.refl w).alloc _).alloc _).alloc _
  have V0 : VarAt W X [.slice a L.length c, .int .i64 h] := by rw [← hW, ← hX]; exact ((VarAt.new w [.slice a L.length c, .int .i64 h] 30).old _).old _
  have V1 : VarAt W (X + 1) s.rc := by rw [← hW, ← hX]; exact (VarAt.new2 w _ s.rc 68).old _
  have V2 : VarAt W (X + 1 + 1) [.slice none 0 0, .int .i64 0] := by rw [← hW, ← hX]; exact VarAt.new3 w _ _ [.slice none 0 0, .int .i64 0] 30
  have hsrc := (RdS.grow hr g0).src FS.rc_length FS.rc_one Try.underlying28
  have HR : Hid (Grow w W ∧ VarAt W X [.slice a L.length c, .int .i64 h] ∧ VarAt W (X + 1) s.rc ∧ VarAt W (X + 1 + 1) [.slice none 0 0, .int .i64 0] ∧ w.heap.size = X) := ⟨g0, V0, V1, V2, hX⟩
  obtain ⟨⟨v0, v1⟩, -⟩ := V0.two
  clear hr g0 V0 V1 V2
  go_enter Try.func60, Try.ntmps60
  go_upto_region 2 with fail
  (try rw [hW])
  (try rw [hX])
  clear hW hX
  go_wp2_with (at_builtin; refine wpList_appS (f := FS.rc) (k := 6) (p := fun _ => False) rfl (.tmp 8) (.tmp 10) 28 28 rfl FS.rc_length (by omega) i0 (.agg #[.bool false, .bool false, .bool false, .int .i64 0, .int .i64 0, .string ⟨#[]⟩]) 40 Try.underlying28 hinf hz0 hz1 hz2 rfl rfl rfl (OwnS.nil _ _ _ _ _) hsrc (by simp only [maxLen, List.length_nil]; omega) (by simp only [List.length_nil]; omega) ?_)
  intro v1 w1 ho1 hu1
  have g1 : Grow W w1 := UpdS.new (Grow.refl _) hu1 (fun i hi => hi.elim)
  have ho : OwnQ (fun i => i = W.heap.size) w1 v1 L := OwnS.mono ho1 (fun i _ hq => hq)
  obtain ⟨g, og, cg, rfl, rfl, hgl, hgc, hgm, ⟨k0, k1, k2, k3, k4, k5⟩, ⟨f0, f1, f2, f3, f4, f5⟩, hput⟩ := ownQ_cells ho hi
  have hX := HR.out.2.2.2.2
  have hXW : X + 1 + 1 < W.heap.size := HR.out.2.2.2.1.lt
  have hpw := hput s
  have hup := upd_put6o w1 W.heap.size (og + i * 6) (.bool s.u) (.bool s.d) (.bool s.r) (.int .i64 s.p) (.int .i64 s.q) (.string (strOfNums s.bs))
  obtain ⟨⟨v0, v1'⟩, -⟩ := (HR.out.2.1.grow g1).two
  obtain ⟨⟨s0, s1, s2, s3, s4, s5⟩, -⟩ := VarAt.six (HR.out.2.2.1.grow g1)
  have V2 := (HR.out.2.2.2.1.grow g1).upd hup (by omega)
  have V0 := (HR.out.2.1.grow g1).upd hup (by omega)
  have H2 : Hid (OwnQ (fun i => i = W.heap.size) (put6o w1 W.heap.size (og + i * 6) (.bool s.u) (.bool s.d) (.bool s.r) (.int .i64 s.p) (.int .i64 s.q) (.string (strOfNums s.bs))) (.slice (some ⟨W.heap.size, og, none⟩) L.length cg) (L.set i s) ∧ Grow W (put6o w1 W.heap.size (og + i * 6) (.bool s.u) (.bool s.d) (.bool s.r) (.int .i64 s.p) (.int .i64 s.q) (.string (strOfNums s.bs))) ∧ VarAt (put6o w1 W.heap.size (og + i * 6) (.bool s.u) (.bool s.d) (.bool s.r) (.int .i64 s.p) (.int .i64 s.q) (.string (strOfNums s.bs))) (X + 1 + 1) [.slice none 0 0, .int .i64 0] ∧ VarAt (put6o w1 W.heap.size (og + i * 6) (.bool s.u) (.bool s.d) (.bool s.r) (.int .i64 s.p) (.int .i64 s.q) (.string (strOfNums s.bs))) X [.slice a L.length c, .int .i64 h]) :=
    ⟨hpw, UpdS.new g1 hup (fun i hi => by omega), V2, V0⟩
  have hle : (i : Int) < (L.length : Int) := by omega
  generalize W.heap.size = G at *
  clear ho1 hu1 g1 ho hput hpw hup V2 V0 hsrc hinf hz0 hz1 hz2
  go_upto_region 4 with fail
  rw [put6o_eq]
  generalize put6o w1 G (og + i * 6) (.bool s.u) (.bool s.d) (.bool s.r) (.int .i64 s.p) (.int .i64 s.q) (.string (strOfNums s.bs)) = w2 at H2 ⊢
  clear k0 k1 k2 k3 k4 k5 f0 f1 f2 f3 f4 f5 v0 v1' s0 s1 s2 s3 s4 s5
  obtain ⟨⟨v0, v1⟩, -⟩ := H2.out.2.2.2.two
  obtain ⟨⟨z0, z1⟩, f0, f1⟩ := H2.out.2.2.1.two
  have HF : Hid (VarAt ((w2.setCell ⟨X + 1 + 1, 0, none⟩ (.slice (some ⟨G, og, none⟩) L.length cg)).setCell ⟨X + 1 + 1, 1, none⟩ (.int .i64 h)) (X + 1 + 1) [.slice (some ⟨G, og, none⟩) L.length cg, .int .i64 h] ∧ RdQ (fun i => w.heap.size ≤ i) ((w2.setCell ⟨X + 1 + 1, 0, none⟩ (.slice (some ⟨G, og, none⟩) L.length cg)).setCell ⟨X + 1 + 1, 1, none⟩ (.int .i64 h)) (.slice (some ⟨G, og, none⟩) L.length cg) (L.set i s) ∧ Grow w ((w2.setCell ⟨X + 1 + 1, 0, none⟩ (.slice (some ⟨G, og, none⟩) L.length cg)).setCell ⟨X + 1 + 1, 1, none⟩ (.int .i64 h))) := by
    have u2 := upd_pair w2 (X + 1 + 1) (.slice (some ⟨G, og, none⟩) L.length cg) (.int .i64 h)
    have hW := HR.out.1.size
    refine ⟨H2.out.2.2.1.set2 _ _, RdS.mono (RdS.upd (OwnS.rd H2.out.1) u2 (fun i _ hi => by omega)) (fun i _ hi => by omega), UpdS.new (HR.out.1.trans H2.out.2.1) u2 (fun i hi => by omega)⟩
  go_wp2
  exact bodyPost_ret_by (results_cell rfl _ _ _ _ rfl (load_P _ _ _ _ HF.out.1 rfl)) rfl ⟨_, _, rfl, HF.out.2⟩
end Go.Proofs.Ythdhfojogckflaa
