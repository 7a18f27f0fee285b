/-
  The walk of a partition's Victim. Conditions: each theorem's own.
-/
import Derived.Test.YtgpigllimoafaaaPrtL
import Derived.Test.YtgpigllimoafaaaPrtT
import Derived.Test.YtgpigllimoafaaaClkRT
import Derived.Test.YtgpigllimoafaaaClkG
import Derived.Test.YtgpigllimoafaaaSched
import Derived.Deep.LoopGhost
import Derived.Deep.CutRange
namespace Go.Proofs.Ytgpigllimoafaaa
open Go.RowKit
set_option linter.unusedVariables false
set_option linter.unusedSimpArgs false

/-- flags of which those ahead of j are the frames', the others noughts -/
def flTo (L : List FS) (j : Nat) : List Fl := (List.range L.length).map (fun i => if i < j then (L.getD i FS.empty).fl else Fl.zero)
theorem flTo_len (L : List FS) (j : Nat) : (flTo L j).length = L.length := by simp [flTo]
theorem flTo_at {L : List FS} {j i : Nat} (hi : i < L.length) : (flTo L j).getD i Fl.zero = if i < j then (L.getD i FS.empty).fl else Fl.zero := by
  simp [flTo, List.getD, hi]
theorem flTo_zero (L : List FS) : flTo L 0 = List.replicate L.length Fl.zero := ext_at (d := Fl.zero) (by rw [flTo_len, List.length_replicate]) (fun i hi => by
  rw [flTo_len] at hi; rw [flTo_at hi, if_neg (by omega)]; simp [List.getD, hi])
theorem flTo_all (L : List FS) : flTo L L.length = flsL L := ext_at (d := Fl.zero) (by rw [flTo_len, flsL_len]) (fun i hi => by
  rw [flTo_len] at hi; rw [flTo_at hi, if_pos hi, flsL_at hi])
theorem flTo_succ {L : List FS} {j : Nat} (hj : j < L.length) : flTo L (j + 1) = (flTo L j).set j (L.getD j FS.empty).fl := ext_at (d := Fl.zero) (by rw [flTo_len, List.length_set, flTo_len]) (fun i hi => by
  rw [flTo_len] at hi
  rw [getD_set (by rw [flTo_len]; exact hi), flTo_at hi, flTo_at hi]
  by_cases e : j = i
  · subst e; rw [if_pos (by omega), if_pos rfl]
  · rw [if_neg e]
    by_cases h : i < j
    · rw [if_pos (by omega), if_pos h]
    · rw [if_neg (by omega), if_neg h])

/-- four cells from a place on, written anew -/
def put4o (w : World) (b o : Nat) (x0 x1 x2 x3 : Value) : World := (((w.setCell ⟨b, o, none⟩ x0).setCell ⟨b, o + 1, none⟩ x1).setCell ⟨b, o + 2, none⟩ x2).setCell ⟨b, o + 3, none⟩ x3
theorem put4o_eq (w : World) (b o : Nat) (x0 x1 x2 x3 : Value) : (((w.setCell ⟨b, o, none⟩ x0).setCell ⟨b, o + 1, none⟩ x1).setCell ⟨b, o + 2, none⟩ x2).setCell ⟨b, o + 3, none⟩ x3 = put4o w b o x0 x1 x2 x3 := rfl
theorem put4o_is (w : World) (b o : Nat) (x : Fl) : w.setCells b o x.cs = put4o w b o (.bool x.u) (.bool x.d) (.bool x.r) (.int .i64 x.p) := rfl
theorem upd_put4o (w : World) (b o : Nat) (x0 x1 x2 x3 : Value) : UpdS (fun k => k = b) w (put4o w b o x0 x1 x2 x3) :=
  (((upd_one w b o x0).trans (upd_one _ b (o + 1) x1)).trans (upd_one _ b (o + 2) x2)).trans (upd_one _ b (o + 3) x3)
theorem ownF_cells {p : Nat → Prop} {w : World} {v : Value} {l : List Fl} (h : OwnF p w v l) {i : Nat} (hi : i < l.length) : ∃ g o c, v = .slice (some ⟨g, o, none⟩) l.length c ∧ p g ∧ g < w.heap.size ∧ l.length ≤ c ∧ c ≤ maxLen ∧ FIn w g (o + i * 4) (l.getD i Fl.zero) ∧ (w.frozen? ⟨g, o + i * 4, none⟩ = false ∧ w.frozen? ⟨g, o + i * 4 + 1, none⟩ = false ∧ w.frozen? ⟨g, o + i * 4 + 2, none⟩ = false ∧ w.frozen? ⟨g, o + i * 4 + 3, none⟩ = false) ∧
    ∀ x : Fl, OwnF p (put4o w g (o + i * 4) (.bool x.u) (.bool x.d) (.bool x.r) (.int .i64 x.p)) v (l.set i x) := by
  obtain ⟨g, o, c, rfl, hb, hlt, hnc, hcm, hcell, hfr, -⟩ := OwnS.row h Fl.cs_length Fl.zero hi
  refine ⟨g, o, c, rfl, hb, hlt, hnc, hcm, ⟨hcell 0 (by omega), hcell 1 (by omega), hcell 2 (by omega), hcell 3 (by omega)⟩, ⟨hfr 0 (by omega), hfr 1 (by omega), hfr 2 (by omega), hfr 3 (by omega)⟩, fun x => ?_⟩
  rw [← put4o_is]
  exact OwnS.put h Fl.cs_length Fl.zero hi x
/-- a frame's flags written anew -/
theorem FrX.flags {w : World} {b o : Nat} {s : FS} (h : FrX w b o s) (x : Fl) : FrX (put4o w b o (.bool x.u) (.bool x.d) (.bool x.r) (.int .i64 x.p)) b o (s.wf x) :=
  FrO.setP (FrO.setR (FrO.setD (FrO.setU h x.u) x.d) x.r) x.p
theorem updO_flags (w : World) (b o : Nat) (x0 x1 x2 x3 : Value) : UpdO b o 37 w (put4o w b o x0 x1 x2 x3) :=
  (((upd_o w b o 37 0 (by omega) x0).trans (upd_o _ b o 37 1 (by omega) x1)).trans (upd_o _ b o 37 2 (by omega) x2)).trans (upd_o _ b o 37 3 (by omega) x3)

set_option maxRecDepth 8000 in
set_option maxHeartbeats 4000000 in
theorem victim_any (w : World) (P b o : Nat) (L : List FS) (h : Nat) (k : PtO w P b o L h) (hk : PtOk L h) : Calls Try.prog 29 #[.pointer (some ⟨P, 0, none⟩)] w fun e w' => e = .returned (.tuple #[.int .i64 (vic (flsL L) h), .bool (decide (0 < (trn (flsL L) h).1))]) ∧ PtO w' P b o (vicL L h) (hnd (flsL L) h) ∧ UpdS (fun i => i = P ∨ i = b) w w' := by
  obtain ⟨i0, hi, hz0, hz1, hz2⟩ := info_parts infoF
  have hL := hk.2.2
  have hrun := run_make (P := Try.prog) w 79 49 i0 (.agg #[.bool false, .bool false, .bool false, .int .i64 0]) Try.underlying79 hi hz0 .i64 .i64 L.length L.length (by omega) (by omega) (by rw [hz2]; omega) (by omega)
  rw [hz1] at hrun
  simp only [Int.toNat_natCast] at hrun
  have ho := ownS_make (f := Fl.cs) (k := 4) w 49 Fl.zero.cs L.length Fl.zero Fl.cs_length rfl (by simp only [maxLen]; omega)
  have hcs : (Value.agg #[.bool false, .bool false, .bool false, .int .i64 0]).cells = Fl.zero.cs.toArray := rfl
  rw [hcs] at hrun
  obtain ⟨W, hW⟩ : ∃ W, w.alloc (.cells (madeCells Fl.zero.cs.toArray (L.length * 4)) 49) = W := ⟨_, rfl⟩
  have g0 : Grow w W := by rw [← hW]; exact (Grow.refl w).alloc _
  have hsz : W.heap.size = w.heap.size + 1 := by rw [← hW]; exact World.size_alloc _ _
  rw [hW] at hrun ho
  obtain ⟨X, hX⟩ : ∃ X, w.heap.size = X := ⟨_, rfl⟩
  rw [hX] at hrun ho hsz
  obtain ⟨fo, hfo⟩ : ∃ fo : Nat, fo = 0 := ⟨_, rfl⟩
  rw [← hfo] at hrun ho
  rw [← flTo_zero] at ho
  have HR : Hid (PtO w P b o L h ∧ Grow w W ∧ w.heap.size = X ∧ P < X ∧ b < X ∧ P ≠ b ∧ W.heap.size = X + 1) := ⟨k, g0, hX, by have := k.lt; omega, by have := k.2.2.1; omega, k.2.1, hsz⟩
  have HK : Hid (PtOk L h) := hk
  have HO : Hid (PtO W P b o L h ∧ OwnF (fun i => i = X) W (.slice (some ⟨X, fo, none⟩) L.length L.length) (flTo L 0) ∧ UpdS (fun i => i = X) W W) := ⟨k.grow g0, ho, UpdS.refl _ _⟩
  have HT : Hid (∀ wr, RdF (fun i => i = X) wr (.slice (some ⟨X, fo, none⟩) L.length L.length) (flsL L) → Calls Try.prog 48 #[.slice (some ⟨X, fo, none⟩) L.length L.length, .int .i64 h] wr fun e w' => ∃ v', e = .returned (.tuple #[.int .i64 (vic (flsL L) h), .int .i64 (hnd (flsL L) h), v', .bool (decide (0 < (trn (flsL L) h).1))]) ∧ OwnF (fun i => wr.heap.size ≤ i) w' v' (trn (flsL L) h).2 ∧ Grow wr w') := fun wr hr =>
    turn_any X fo L.length L.length (flsL L) h wr hr (by rw [flsL_len]; exact hk.2.1) (by rw [flsL_len]; omega)
  have hMl : (trn (flsL L) h).2.length = L.length := by rw [trn_len (by rw [flsL_len]; exact hk.2.1), flsL_len]
  have HV : Hid (vicL L h = wfL L (trn (flsL L) h).2) := rfl
  generalize vicL L h = VL at HV ⊢
  obtain ⟨V, hV⟩ : ∃ V, V = vic (flsL L) h := ⟨_, rfl⟩
  obtain ⟨H', hH'⟩ : ∃ H', H' = hnd (flsL L) h := ⟨_, rfl⟩
  rw [← hV] at HT ⊢
  rw [← hH'] at HT ⊢
  clear hV hH'
  generalize trn (flsL L) h = T at HT hMl HV ⊢
  obtain ⟨K, M⟩ := T
  simp only at HT hMl HV ⊢
  obtain ⟨bb, hbb⟩ : ∃ bb, decide (0 < K) = bb := ⟨_, rfl⟩
  rw [hbb] at HT ⊢
  have HMl : Hid (M.length = L.length) := hMl
  clear hbb hMl
  obtain ⟨⟨c0, -⟩, -⟩ := k.two
  obtain ⟨⟨c0', -⟩, -⟩ := (k.grow g0).two
  clear hcs hi hz0 hz1 hz2 k hk ho hW g0 hfo hX hsz
  go_enter Try.func29, Try.ntmps29
  go_wp2
  go_loopg [21] L.length (fun m iv wr => ∃ j : Nat, m = L.length - j ∧ j ≤ L.length ∧ iv = .int .i64 j ∧ Hid (PtO wr P b o L h ∧ OwnF (fun i => i = X) wr (.slice (some ⟨X, fo, none⟩) L.length L.length) (flTo L j) ∧ UpdS (fun i => i = X) W wr))
  case atStart => exact ⟨0, rfl, by omega, rfl, HO⟩
  case round =>
    clear HO
    obtain ⟨j, hj, hj2, rfl, HI⟩ := hrel
    have HG : Hid (gk = L.length - j) := hj
    clear hj c0 c0' hrun
    obtain ⟨⟨c0, -⟩, -⟩ := HI.out.1.two
    by_cases hlt : j < L.length
    · have hle : (j : Int) < (L.length : Int) := by omega
      have HL : Hid (j < L.length) := hlt
      have hw0 : IntKind.i64.wrap ((j : Int) + 1) = ((j + 1 : Nat) : Int) := by rw [IntKind.wrap_i64]; omega
      have hF := HI.out.1.2.2.2 j hlt
      obtain ⟨⟨k0, k1, k2, k3, -⟩, -⟩ := FrO.five hF
      obtain ⟨g, og, c, hv, rfl, -, -, -, ⟨z0, z1, z2, z3⟩, ⟨f0, f1, f2, f3⟩, hput⟩ := ownF_cells HI.out.2.1 (i := j) (by rw [flTo_len]; exact hlt)
      injection hv with e1 e2 e3
      injection e1 with e1
      injection e1 with _ e4
      subst e4
      have hp := hput (L.getD j FS.empty).fl
      rw [← flTo_succ hlt] at hp
      generalize L.getD j FS.empty = s at k0 k1 k2 k3 hp
      have HF : Hid (PtO (put4o wr g (fo + j * 4) (.bool s.u) (.bool s.d) (.bool s.r) (.int .i64 s.p)) P b o L h ∧ OwnF (fun i => i = g) (put4o wr g (fo + j * 4) (.bool s.u) (.bool s.d) (.bool s.r) (.int .i64 s.p)) (.slice (some ⟨g, fo, none⟩) L.length L.length) (flTo L (j + 1)) ∧ UpdS (fun i => i = g) W (put4o wr g (fo + j * 4) (.bool s.u) (.bool s.d) (.bool s.r) (.int .i64 s.p))) := by
        have u4 := upd_put4o wr g (fo + j * 4) (.bool s.u) (.bool s.d) (.bool s.r) (.int .i64 s.p)
        have hx := HR.out
        exact ⟨HI.out.1.upd u4 (by omega) (by omega), hp, HI.out.2.2.trans u4⟩
      clear hF hput hp hlt e2 e3
      go_wp2
      rw [put4o_eq]
      generalize put4o wr g (fo + j * 4) (.bool s.u) (.bool s.d) (.bool s.r) (.int .i64 s.p) = w2 at HF ⊢
      clear k0 k1 k2 k3 z0 z1 z2 z3 f0 f1 f2 f3 c0 HI
      go_roundg (L.length - (j + 1))
      case measure => have := HG.out; have := HL.out; omega
      case rel => exact ⟨j + 1, rfl, by have := HL.out; omega, by go_num, HF.out⟩
    · obtain rfl : j = L.length := by omega
      have hT := HT.out wr (by have := OwnS.rd HI.out.2.1; rwa [flTo_all] at this)
      obtain ⟨⟨-, c1⟩, -⟩ := HI.out.1.two
      go_wp2_with fail
      refine hT.mono ?_
      rintro e w2 ⟨v2, rfl, o2, g2⟩
      have HA : Hid (PtO w2 P b o (wfTo L M 0) h ∧ OwnF (fun i => wr.heap.size ≤ i) w2 v2 M ∧ UpdS (fun i => i = P ∨ i = b) w w2 ∧ X ≤ wr.heap.size) := by
        have hx := HR.out
        have hs := HI.out.2.2.size
        refine ⟨by rw [wfTo_zero]; exact HI.out.1.grow g2, o2, (UpdS.new hx.2.1 HI.out.2.2 (fun i hi => by omega)).s.trans g2.s, by omega⟩
      obtain ⟨a2, cc, hv2⟩ := o2.shape
      rw [HMl.out] at hv2
      subst hv2
      generalize wr.heap.size = Y at HA
      clear hT o2 g2 c0 c1 HI
      go_wp2
      go_loopg [49] L.length (fun m iv wx => ∃ j : Nat, m = L.length - j ∧ j ≤ L.length ∧ iv = .int .i64 j ∧ Hid (PtO wx P b o (wfTo L M j) h ∧ OwnF (fun i => Y ≤ i) wx (.slice a2 L.length cc) M ∧ UpdS (fun i => i = P ∨ i = b) w wx ∧ X ≤ Y))
      case atStart => exact ⟨0, rfl, by omega, rfl, HA⟩
      case round =>
        clear HA
        obtain ⟨j, hj, hj2, rfl, HJ⟩ := hrel
        obtain ⟨⟨c0, c1⟩, -, fp1⟩ := HJ.out.1.two
        rw [wfTo_len] at c0
        by_cases hlt : j < L.length
        · have hle : (j : Int) < (L.length : Int) := by omega
          have HL : Hid (j < L.length ∧ gk = L.length - j) := ⟨hlt, hj⟩
          have hw0 : IntKind.i64.wrap ((j : Int) + 1) = ((j + 1 : Nat) : Int) := by rw [IntKind.wrap_i64]; omega
          have hF := HJ.out.1.2.2.2 j (by rw [wfTo_len]; exact hlt)
          have hgj : (wfTo L M j).getD j FS.empty = L.getD j FS.empty := by rw [wfTo_at hlt, if_neg (by omega)]
          rw [hgj] at hF
          obtain ⟨g, og, rfl, hgY⟩ := rdF_addr (OwnS.rd HJ.out.2.1) (by rw [HMl.out]; omega)
          have hin := rdF_in (OwnS.rd HJ.out.2.1) (i := j) (by rw [HMl.out]; exact hlt)
          have hsucc := wfTo_succ (M := M) hlt
          generalize M.getD j Fl.zero = x at hin hsucc
          generalize L.getD j FS.empty = s at hF hsucc
          have gd : Grow wr wr.drew := (Grow.refl wr).drew
          have HF : Hid (PtO (put4o wr.drew b (o + j * 37) (.bool x.u) (.bool x.d) (.bool x.r) (.int .i64 x.p)) P b o (wfTo L M (j + 1)) h ∧ OwnF (fun i => Y ≤ i) (put4o wr.drew b (o + j * 37) (.bool x.u) (.bool x.d) (.bool x.r) (.int .i64 x.p)) (.slice (some ⟨g, og, none⟩) L.length cc) M ∧ UpdS (fun i => i = P ∨ i = b) w (put4o wr.drew b (o + j * 37) (.bool x.u) (.bool x.d) (.bool x.r) (.int .i64 x.p)) ∧ X ≤ Y) := by
            have u4 := updO_flags wr.drew b (o + j * 37) (.bool x.u) (.bool x.d) (.bool x.r) (.int .i64 x.p)
            have hx := HR.out
            have hXY := HJ.out.2.2.2
            refine ⟨?_, OwnS.upd (OwnS.grow HJ.out.2.1 gd) u4.s (fun i _ hi => by omega), (HJ.out.2.2.1.trans gd.s).trans (u4.s.mono (fun i hi => .inr hi)), hXY⟩
            rw [hsucc]
            exact (HJ.out.1.grow gd).frame (by rw [wfTo_len]; exact hlt) (FrX.flags (hF.upd gd.s (S := fun _ => False) (fun f => f)) x) u4
          have fx : ∀ w', UpdS (fun i => i = b) wr.drew w' → (w'.cell? ⟨P, 0, none⟩ = some (.slice (some ⟨b, o, none⟩) L.length L.length) ∧ FIn w' g (og + j * 4) x) := fun w' hg => by
            have hx := HR.out
            have hXY := HJ.out.2.2.2
            have hc := ((HJ.out.1.1.grow gd).upd hg hx.2.2.2.2.2.1).two.1.1
            rw [wfTo_len] at hc
            exact ⟨hc, (hin.grow gd).upd hg (by omega)⟩
          obtain ⟨⟨k0, k1, k2, k3, -⟩, f0, f1, f2, f3, -⟩ := FrO.five hF
          clear hF hgj hin hsucc hlt hj c1 fp1 HJ
          go_wp2
          refine wp_region_schedG (UpdS (fun i => i = b)) (UpdS.refl _) (fun _ _ _ => UpdS.trans) (by kernel_rfl) [(0, false), (1, false), (2, false), (3, false), (4, false), (5, false), (6, false), (7, false), (8, false), (9, false), (10, false), (11, true)] (by kernel_rfl) (by kernel_rfl) rfl (fun _ _ d _ _ h => by cases d <;> exact h) ?_
          simp only [inOrder, List.filterMap_cons, List.filterMap_nil, List.getElem?_toArray, List.getElem?_cons_zero, List.getElem?_cons_succ, Option.map_some]
          repeat (first
            | (refine wpS_move rfl ?_; simp only [Act.eval, Act.put, Array.getD_eq_getD_getElem?, List.getElem?_toArray, List.getElem?_cons_zero, List.getElem?_cons_succ, Option.getD_some, List.setIfInBounds_toArray, List.set_cons_zero, List.set_cons_succ])
            | (refine wpS_assign rfl ?_; simp only [Act.eval, Act.put, Array.getD_eq_getD_getElem?, List.getElem?_toArray, List.getElem?_cons_zero, List.getElem?_cons_succ, Option.getD_some, List.setIfInBounds_toArray, List.set_cons_zero, List.set_cons_succ])
            | (refine wpS_read (v := ?_) rfl ?_ ?_; rotate_left; (focus (intro w' hG; obtain ⟨q0, q1, q2, q3, q4⟩ := fx w' hG; go_simp; try (with_reducible rfl))); simp only [Act.put, List.setIfInBounds_toArray, List.set_cons_zero, List.set_cons_succ])
            | (refine wpS_skip rfl ?_; simp only [Act.put, List.setIfInBounds_toArray, List.set_cons_zero, List.set_cons_succ]))
          refine wpS_store (w' := put4o wr.drew b (o + j * 37) (.bool x.u) (.bool x.d) (.bool x.r) (.int .i64 x.p)) (by rfl) (by unfold put4o; go_simp) (upd_put4o _ _ _ _ _ _ _) ?_
          simp only [Act.put, List.setIfInBounds_toArray, List.set_cons_zero, List.set_cons_succ]
          refine wpS_nil ?_
          generalize put4o wr.drew b (o + j * 37) (.bool x.u) (.bool x.d) (.bool x.r) (.int .i64 x.p) = w3 at HF ⊢
          clear fx k0 k1 k2 k3 f0 f1 f2 f3 c0
          go_wp2
          go_roundg (L.length - (j + 1))
          case measure => have := HL.out; omega
          case rel => exact ⟨j + 1, rfl, HL.out.1, by go_num, HF.out⟩
        · obtain rfl : j = L.length := by omega
          have HF : Hid (PtO (wr.setCell ⟨P, 1, none⟩ (.int .i64 H')) P b o VL H' ∧ UpdS (fun i => i = P ∨ i = b) w (wr.setCell ⟨P, 1, none⟩ (.int .i64 H'))) := by
            refine ⟨?_, HJ.out.2.2.1.trans ((upd_one wr P 1 _).mono (fun i hi => .inl hi))⟩
            have := HJ.out.1
            rw [wfTo_all, ← HV.out] at this
            exact this.turn H'
          go_wp2
          go_ret2
          exact ⟨rfl, HF.out⟩
end Go.Proofs.Ytgpigllimoafaaa
