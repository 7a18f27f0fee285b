/-
  The walk of the document's Victim. Conditions: each theorem's own.
-/
import Derived.Test.YthdhfojogckflaaPrtV
import Derived.Test.YthdhfojogckflaaPrtI
import Derived.Test.YthdhfojogckflaaTree
namespace Go.Proofs.Ythdhfojogckflaa
open Go.RowKit
set_option linter.unusedVariables false
set_option linter.unusedSimpArgs false

/-- what the document's Victim tells -/
def vicQ (L : List FS) (h : Nat) : Int := if (trn (flsL L) h).1 = 0 then -1 else (vic (flsL L) h : Int)
theorem hnd_stays {L : List FS} {h : Nat} (h0 : (trn (flsL L) h).1 = 0) : hnd (flsL L) h = h := if_pos h0
theorem flsL_pos {L : List FS} {h : Nat} (hk : PtOk L h) : ∀ x ∈ flsL L, 0 ≤ x.p := fun x hx => by
  obtain ⟨s, hs, rfl⟩ := List.mem_map.1 hx
  exact (hk.1 s hs).2.2.1
theorem zeroTT (w : World) : (zeroValue 96).run Try.prog w = .ok (.agg #[.int .i64 0, .int .i64 0, .slice none 0 0, .int .i64 0]) w := by kernel_rfl
/-- the making of a variable in a drawn region -/
theorem exec_allocW {P : Program} {w : World} {ev : Operand → Value} {d : Option Tmp} {t ty : TypeId} {p : String} {af : Array Edge} {g : Option (Nat × Bool)} (cs : Array Value) (hz : ∀ w, (zeroValue t).run P w = .ok (.agg cs) w) :
    (execOp ev { dst := d, op := .alloc t, type := ty, pos := p, after := af, guard := g }).run P w = .ok (.value (.pointer (some ⟨w.heap.size, 0, none⟩))) (w.alloc (.cells cs t)) := by
  have h1 := hz w
  simp only [execOp]
  go_simp
/-- a variable of four cells written anew -/
def put4 (w : World) (b : Nat) (x0 x1 x2 x3 : Value) : World := (((w.setCell ⟨b, 0, none⟩ x0).setCell ⟨b, 1, none⟩ x1).setCell ⟨b, 2, none⟩ x2).setCell ⟨b, 3, none⟩ x3
theorem VarAt.put4 {w : World} {b : Nat} {y0 y1 y2 y3 : Value} (h : VarAt w b [y0, y1, y2, y3]) (x0 x1 x2 x3 : Value) : VarAt (put4 w b x0 x1 x2 x3) b [x0, x1, x2, x3] :=
  (((h.set 0 x0).set 1 x1).set 2 x2).set 3 x3
theorem upd_put4 (w : World) (b : Nat) (x0 x1 x2 x3 : Value) : UpdS (fun k => k = b) w (put4 w b x0 x1 x2 x3) :=
  (((upd_one w b 0 x0).trans (upd_one _ b 1 x1)).trans (upd_one _ b 2 x2)).trans (upd_one _ b 3 x3)
/-- of two rows, the one ahead of j, the other from j on -/
def mixTo (A B : List FS) (j : Nat) : List FS := (List.range A.length).map (fun i => if i < j then B.getD i FS.empty else A.getD i FS.empty)
theorem mixTo_len (A B : List FS) (j : Nat) : (mixTo A B j).length = A.length := by simp [mixTo]
theorem mixTo_at {A B : List FS} {j i : Nat} (hi : i < A.length) : (mixTo A B j).getD i FS.empty = if i < j then B.getD i FS.empty else A.getD i FS.empty := by
  simp [mixTo, List.getD, hi]
theorem mixTo_zero (A B : List FS) : mixTo A B 0 = A := ext_at (d := FS.empty) (mixTo_len _ _ _) (fun i hi => by
  rw [mixTo_len] at hi; rw [mixTo_at hi, if_neg (by omega)])
theorem mixTo_all {A B : List FS} (hB : B.length = A.length) : mixTo A B A.length = B := ext_at (d := FS.empty) (by rw [mixTo_len, hB]) (fun i hi => by
  rw [mixTo_len] at hi; rw [mixTo_at hi, if_pos hi])
theorem mixTo_succ {A B : List FS} {j : Nat} (hj : j < A.length) : mixTo A B (j + 1) = (mixTo A B j).set j (B.getD j FS.empty) := ext_at (d := FS.empty) (by rw [mixTo_len, List.length_set, mixTo_len]) (fun i hi => by
  rw [mixTo_len] at hi
  rw [getD_set (by rw [mixTo_len]; exact hi), mixTo_at hi, mixTo_at hi]
  by_cases e : j = i
  · subst e; rw [if_pos (by omega), if_pos rfl]
  · rw [if_neg e]
    by_cases h : i < j
    · rw [if_pos (by omega), if_pos h]
    · rw [if_neg (by omega), if_neg h])


set_option maxRecDepth 8000 in
set_option maxHeartbeats 8000000 in
theorem qvictim_any {pq : Nat → Prop} (w : World) (a : Option Addr) (c : Nat) (L : List FS) (h : Nat) (hr : RdQ pq w (.slice a L.length c) L) (hL : L.length ≤ 64) (hn : ∀ i, w.heap.size ≤ i → pq i) (hk : PtOk L h) : Calls Try.prog 35 #[.agg #[.slice a L.length c, .int .i64 h]] w fun e w' => ∃ a' c', e = .returned (.tuple #[.agg #[.slice a' L.length c', .int .i64 (hnd (flsL L) h)], .int .i64 (vicQ L h)]) ∧ RdQ pq w' (.slice a' L.length c') (vicL L h) ∧ Grow w w' := by
  obtain ⟨W, hW⟩ : ∃ W, (w.alloc (.cells #[.slice a L.length c, .int .i64 h] 30)).alloc (.cells #[.slice none 0 0, .int .i64 0] 30) = W := ⟨_, rfl⟩
  obtain ⟨X, hX⟩ : ∃ X, w.heap.size = X := ⟨_, rfl⟩
  have g0 : Grow w W := by rw [← hW]; exact ((Grow.refl w).alloc _).alloc _
  have V0 : VarAt W X [.slice a L.length c, .int .i64 h] := by rw [← hW, ← hX]; exact (VarAt.new w [.slice a L.length c, .int .i64 h] 30).old _
  have V1 : VarAt W (X + 1) [.slice none 0 0, .int .i64 0] := by rw [← hW, ← hX]; exact VarAt.new2 w _ [.slice none 0 0, .int .i64 0] 30
  have HR : Hid (RdQ (fun i => pq i ∧ i < X) W (.slice a L.length c) L ∧ Grow w W ∧ VarAt W X [.slice a L.length c, .int .i64 h] ∧ VarAt W (X + 1) [.slice none 0 0, .int .i64 0] ∧ w.heap.size = X) := ⟨by rw [← hX]; exact RdS.grow (rd_old hr) g0, g0, V0, V1, hX⟩
  have HN : Hid (∀ i, w.heap.size ≤ i → pq i) := hn
  obtain ⟨⟨v0, v1⟩, -⟩ := V0.two
  obtain ⟨⟨z0, z1⟩, f0, f1⟩ := V1.two
  have hfl := fun w' (g : Grow W w') => qflags_any w' a c L h (RdS.grow HR.out.1 g) hL
  have HT : Hid (∀ v w' (p : Nat → Prop), RdF p w' v (flsL L) → Calls Try.prog 58 #[v, .int .i64 h] w' fun e w'' => ∃ v', e = .returned (.agg #[.int .i64 (vic (flsL L) h), .int .i64 (hnd (flsL L) h), v', .int .i64 (trn (flsL L) h).1]) ∧ OwnF (fun i => w'.heap.size ≤ i) w'' v' (trn (flsL L) h).2 ∧ Grow w' w'') := fun v w' p hv =>
    rturn_any v (flsL L) h w' hv (by rw [flsL_len]; exact hk.2.1) (by rw [flsL_len]; omega) (flsL_pos hk)
  have hMl : (trn (flsL L) h).2.length = L.length := by rw [trn_len (by rw [flsL_len]; exact hk.2.1), flsL_len]
  have HV : Hid ((vicL L h).length = L.length ∧ ((trn (flsL L) h).1 = 0 → vicL L h = L ∧ hnd (flsL L) h = h) ∧ vicQ L h = (if (trn (flsL L) h).1 = 0 then -1 else (vic (flsL L) h : Int)) ∧ (∀ j, j < L.length → (vicL L h).getD j FS.empty = ⟨(L.getD j FS.empty).u, (L.getD j FS.empty).d, ((trn (flsL L) h).2.getD j Fl.zero).r, (L.getD j FS.empty).p, (L.getD j FS.empty).q, (L.getD j FS.empty).bs⟩)) := ⟨vicL_len L h, fun e => ⟨vicL_none hk.2.1 e, hnd_stays e⟩, rfl, fun j hj => vicL_is hk.2.1 hj⟩
  generalize vicL L h = VL at HV ⊢
  generalize vicQ L h = VQ at HV ⊢
  obtain ⟨V, hV⟩ : ∃ V, V = vic (flsL L) h := ⟨_, rfl⟩
  obtain ⟨H1, hH1⟩ : ∃ H1, H1 = hnd (flsL L) h := ⟨_, rfl⟩
  rw [← hV] at HT HV
  rw [← hH1] at HT HV ⊢
  clear hV hH1
  generalize trn (flsL L) h = TT at HT hMl HV
  obtain ⟨K, M⟩ := TT
  simp only at HT hMl HV
  have HMl : Hid (M.length = L.length ∧ 0 < L.length) := ⟨hMl, by have := hk.2.1; omega⟩
  clear hr hMl g0 V0 V1 hk hn z0 z1 f0 f1
  go_enter Try.func35, Try.ntmps35
  go_upto_region 1 with fail
  (try rw [hW])
  (try rw [hX])
  clear hW hX
  go_cut [4] from 7 to 44 (fun tv wx => ∃ (Mb : Nat) (at2 : Option Addr) (ct : Nat), tv = .pointer (some ⟨Mb, 0, none⟩) ∧ Hid (VarAt wx Mb [.int .i64 V, .int .i64 H1, .slice at2 L.length ct, .int .i64 K] ∧ RdF (fun i => i ≠ X ∧ i ≠ X + 1) wx (.slice at2 L.length ct) M ∧ Grow W wx ∧ X + 1 < Mb))
  case first =>
    have gd : Grow W W.drew := (Grow.refl W).drew
    have HX : Hid (X + 1 < W.heap.size) := HR.out.2.2.2.1.lt
    have fx : ∀ w', UpdS (fun i => W.heap.size ≤ i) W.drew w' → (w'.cell? ⟨X, 0, none⟩ = some (.slice a L.length c) ∧ w'.cell? ⟨X, 1, none⟩ = some (.int .i64 h)) := fun w' g => ((HR.out.2.2.1.grow gd).upd g (by have := HX.out; omega)).two.1
    go_wp2
    refine wp_region_treeG (UpdS (fun i => W.heap.size ≤ i)) (UpdS.refl _) (fun _ _ _ => UpdS.trans) (by kernel_rfl) (.read 0 (.read 2 (.read 3 (.fork 1 (.fork 4 (.act 5 (.act 6 .done)) 5 (.act 4 (.act 6 .done))) 5 (.act 1 (.act 4 (.act 6 .done))))))) (by kernel_rfl) (by kernel_rfl) rfl (fun _ _ d _ _ h => by cases d <;> exact h) ?_
    simp only [Tr.over, List.getElem?_toArray, List.getElem?_cons_zero, List.getElem?_cons_succ]
    repeat (first
      | (refine wpT_move rfl ?_; simp only [Act.eval, Act.put, Array.getD_eq_getD_getElem?, List.getElem?_toArray, List.getElem?_cons_zero, List.getElem?_cons_succ, Option.getD_some, List.setIfInBounds_toArray, List.set_cons_zero, List.set_cons_succ])
      | (refine wpT_assign rfl ?_; simp only [Act.eval, Act.put, Array.getD_eq_getD_getElem?, List.getElem?_toArray, List.getElem?_cons_zero, List.getElem?_cons_succ, Option.getD_some, List.setIfInBounds_toArray, List.set_cons_zero, List.set_cons_succ])
      | (refine wpT_read (v := ?_) rfl ?_ ?_; rotate_left; (focus (intro w' hG; obtain ⟨q0, q1⟩ := fx w' hG; go_simp; try (with_reducible rfl))); simp only [Act.put, List.setIfInBounds_toArray, List.set_cons_zero, List.set_cons_succ])
      | (refine wpT_skip rfl ?_; simp only [Act.put, List.setIfInBounds_toArray, List.set_cons_zero, List.set_cons_succ]))
    refine wpT_fork ?_ ?_
    · skip
      have hc1 := hfl W.drew gd
      refine wpT_call (f := ?_) (args := ?_) (by rfl) ?_ ?_
      rotate_left 2; focus (go_simp; constructor <;> with_reducible rfl)
      refine (hc1).mono ?_
      rintro e w1 ⟨vf, rfl, rf, gg1⟩
      refine ⟨_, rfl, Grow.s gg1, ?_⟩
      simp only [Act.put, List.setIfInBounds_toArray, List.set_cons_zero, List.set_cons_succ]
      have gA1 : Grow W w1 := gd.trans gg1
      refine wpT_fork ?_ ?_
      · skip
        have hc2 := HT.out vf w1 _ rf
        refine wpT_call (f := ?_) (args := ?_) (by rfl) ?_ ?_
        rotate_left 2; focus (go_simp; constructor <;> with_reducible rfl)
        refine (hc2).mono ?_
        rintro e w2 ⟨vt, rfl, ot, gg2⟩
        refine ⟨_, rfl, Grow.s gg2, ?_⟩
        simp only [Act.put, List.setIfInBounds_toArray, List.set_cons_zero, List.set_cons_succ]
        have gA2 : Grow W w2 := gA1.trans gg2
        obtain ⟨at2, ct, hvt⟩ := ot.shape
        rw [HMl.out.1] at hvt
        subst hvt
        have rt : RdF (fun i => i ≠ X ∧ i ≠ X + 1) w2 (.slice at2 L.length ct) M := (OwnS.rd ot).mono (fun i _ hi => by have := HX.out; have := gA1.size; omega)
        refine wpT_act (by rfl) (exec_allocW #[.int .i64 0, .int .i64 0, .slice none 0 0, .int .i64 0] zeroTT) (Grow.s ((Grow.refl _).alloc _)) ?_
        simp only [Act.put, List.setIfInBounds_toArray, List.set_cons_zero, List.set_cons_succ]
        have VV3 := VarAt.new w2 [.int .i64 0, .int .i64 0, .slice none 0 0, .int .i64 0] 96
        have gg3 : Grow w2 (w2.alloc (.cells #[.int .i64 0, .int .i64 0, .slice none 0 0, .int .i64 0] 96)) := (Grow.refl _).alloc _
        obtain ⟨w3, hw3⟩ : ∃ w3, w2.alloc (.cells #[.int .i64 0, .int .i64 0, .slice none 0 0, .int .i64 0] 96) = w3 := ⟨_, rfl⟩
        obtain ⟨M', hM⟩ : ∃ M', w2.heap.size = M' := ⟨_, rfl⟩
        have HM : Hid (W.heap.size ≤ M') := by show W.heap.size ≤ M'; have := gA2.size; have e0 : W.drew.heap.size = W.heap.size := rfl; omega
        have VN3 : VarAt w3 M' [.int .i64 0, .int .i64 0, .slice none 0 0, .int .i64 0] := by rw [← hw3, ← hM]; exact VV3
        rw [hw3] at gg3 ⊢
        (try rw [show W.drew.heap.size = W.heap.size from rfl])
        (try rw [hM])
        have gA3 : Grow W w3 := gA2.trans gg3
        have rt2 : RdF (fun i => i ≠ X ∧ i ≠ X + 1 ∧ i ≠ M') w3 (.slice at2 L.length ct) M := (RdS.grow (rt.mono (fun i hi hh => (⟨hh, hi⟩ : _ ∧ i < w2.heap.size))) gg3).mono (fun i _ hi => ⟨hi.1.1, hi.1.2, by omega⟩)
        clear VV3 hw3 hM
        obtain ⟨⟨y0, y1, y2, y3⟩, f0, f1, f2, f3⟩ := VN3.four
        have HF : Hid (VarAt (put4 w3 M' (.int .i64 V) (.int .i64 H1) (.slice at2 L.length ct) (.int .i64 K)) M' [.int .i64 V, .int .i64 H1, .slice at2 L.length ct, .int .i64 K] ∧ RdF (fun i => i ≠ X ∧ i ≠ X + 1) (put4 w3 M' (.int .i64 V) (.int .i64 H1) (.slice at2 L.length ct) (.int .i64 K)) (.slice at2 L.length ct) M ∧ Grow W (put4 w3 M' (.int .i64 V) (.int .i64 H1) (.slice at2 L.length ct) (.int .i64 K)) ∧ X + 1 < M') := by
          have hm := HM.out
          have hx := HX.out
          have u4 := upd_put4 w3 M' (.int .i64 V) (.int .i64 H1) (.slice at2 L.length ct) (.int .i64 K)
          exact ⟨VN3.put4 _ _ _ _, (RdS.upd rt2 u4 (fun i _ hi => hi.2.2)).mono (fun i _ hi => ⟨hi.1, hi.2.1⟩), UpdS.new gA3 u4 (fun i hi => by omega), by omega⟩
        refine wpT_store (w' := put4 w3 M' (.int .i64 V) (.int .i64 H1) (.slice at2 L.length ct) (.int .i64 K)) (by rfl) (by unfold put4; go_simp) ((upd_put4 _ _ _ _ _ _).mono (fun i hi => by have := HM.out; omega)) ?_
        simp only [Act.put, List.setIfInBounds_toArray, List.set_cons_zero, List.set_cons_succ]
        generalize put4 w3 M' (.int .i64 V) (.int .i64 H1) (.slice at2 L.length ct) (.int .i64 K) = w9 at HF ⊢
        refine wpT_done ?_
        clear y0 y1 y2 y3 f0 f1 f2 f3 fx
        go_wp2
        go_meet
        exact ⟨_, _, _, rfl, HF⟩
      · skip
        refine wpT_act (by rfl) (exec_allocW #[.int .i64 0, .int .i64 0, .slice none 0 0, .int .i64 0] zeroTT) (Grow.s ((Grow.refl _).alloc _)) ?_
        simp only [Act.put, List.setIfInBounds_toArray, List.set_cons_zero, List.set_cons_succ]
        have VV2 := VarAt.new w1 [.int .i64 0, .int .i64 0, .slice none 0 0, .int .i64 0] 96
        have gg2 : Grow w1 (w1.alloc (.cells #[.int .i64 0, .int .i64 0, .slice none 0 0, .int .i64 0] 96)) := (Grow.refl _).alloc _
        obtain ⟨w2, hw2⟩ : ∃ w2, w1.alloc (.cells #[.int .i64 0, .int .i64 0, .slice none 0 0, .int .i64 0] 96) = w2 := ⟨_, rfl⟩
        obtain ⟨M', hM⟩ : ∃ M', w1.heap.size = M' := ⟨_, rfl⟩
        have HM : Hid (W.heap.size ≤ M') := by show W.heap.size ≤ M'; have := gA1.size; have e0 : W.drew.heap.size = W.heap.size := rfl; omega
        have VN2 : VarAt w2 M' [.int .i64 0, .int .i64 0, .slice none 0 0, .int .i64 0] := by rw [← hw2, ← hM]; exact VV2
        rw [hw2] at gg2 ⊢
        (try rw [show W.drew.heap.size = W.heap.size from rfl])
        (try rw [hM])
        have gA2 : Grow W w2 := gA1.trans gg2
        have rf := RdS.grow rf gg2
        clear VV2 hw2 hM
        have hc3 := HT.out vf w2 _ rf
        refine wpT_call (f := ?_) (args := ?_) (by rfl) ?_ ?_
        rotate_left 2; focus (go_simp; constructor <;> with_reducible rfl)
        refine (hc3).mono ?_
        rintro e w3 ⟨vt, rfl, ot, gg3⟩
        refine ⟨_, rfl, Grow.s gg3, ?_⟩
        simp only [Act.put, List.setIfInBounds_toArray, List.set_cons_zero, List.set_cons_succ]
        have gA3 : Grow W w3 := gA2.trans gg3
        obtain ⟨at2, ct, hvt⟩ := ot.shape
        rw [HMl.out.1] at hvt
        subst hvt
        have rt : RdF (fun i => i ≠ X ∧ i ≠ X + 1 ∧ i ≠ M') w3 (.slice at2 L.length ct) M := (OwnS.rd ot).mono (fun i _ hi => by have := HX.out; have := gA2.size; have := VN2.lt; omega)
        have VN3 := VN2.grow gg3
        obtain ⟨⟨y0, y1, y2, y3⟩, f0, f1, f2, f3⟩ := VN3.four
        have HF : Hid (VarAt (put4 w3 M' (.int .i64 V) (.int .i64 H1) (.slice at2 L.length ct) (.int .i64 K)) M' [.int .i64 V, .int .i64 H1, .slice at2 L.length ct, .int .i64 K] ∧ RdF (fun i => i ≠ X ∧ i ≠ X + 1) (put4 w3 M' (.int .i64 V) (.int .i64 H1) (.slice at2 L.length ct) (.int .i64 K)) (.slice at2 L.length ct) M ∧ Grow W (put4 w3 M' (.int .i64 V) (.int .i64 H1) (.slice at2 L.length ct) (.int .i64 K)) ∧ X + 1 < M') := by
          have hm := HM.out
          have hx := HX.out
          have u4 := upd_put4 w3 M' (.int .i64 V) (.int .i64 H1) (.slice at2 L.length ct) (.int .i64 K)
          exact ⟨VN3.put4 _ _ _ _, (RdS.upd rt u4 (fun i _ hi => hi.2.2)).mono (fun i _ hi => ⟨hi.1, hi.2.1⟩), UpdS.new gA3 u4 (fun i hi => by omega), by omega⟩
        refine wpT_store (w' := put4 w3 M' (.int .i64 V) (.int .i64 H1) (.slice at2 L.length ct) (.int .i64 K)) (by rfl) (by unfold put4; go_simp) ((upd_put4 _ _ _ _ _ _).mono (fun i hi => by have := HM.out; omega)) ?_
        simp only [Act.put, List.setIfInBounds_toArray, List.set_cons_zero, List.set_cons_succ]
        generalize put4 w3 M' (.int .i64 V) (.int .i64 H1) (.slice at2 L.length ct) (.int .i64 K) = w9 at HF ⊢
        refine wpT_done ?_
        clear y0 y1 y2 y3 f0 f1 f2 f3 fx
        go_wp2
        go_meet
        exact ⟨_, _, _, rfl, HF⟩
    · skip
      refine wpT_act (by rfl) (exec_allocW #[.int .i64 0, .int .i64 0, .slice none 0 0, .int .i64 0] zeroTT) (Grow.s ((Grow.refl _).alloc _)) ?_
      simp only [Act.put, List.setIfInBounds_toArray, List.set_cons_zero, List.set_cons_succ]
      have VV1 := VarAt.new W.drew [.int .i64 0, .int .i64 0, .slice none 0 0, .int .i64 0] 96
      have gg1 : Grow W.drew (W.drew.alloc (.cells #[.int .i64 0, .int .i64 0, .slice none 0 0, .int .i64 0] 96)) := (Grow.refl _).alloc _
      obtain ⟨w1, hw1⟩ : ∃ w1, W.drew.alloc (.cells #[.int .i64 0, .int .i64 0, .slice none 0 0, .int .i64 0] 96) = w1 := ⟨_, rfl⟩
      obtain ⟨M', hM⟩ : ∃ M', W.heap.size = M' := ⟨_, rfl⟩
      have HM : Hid (W.heap.size ≤ M') := by show W.heap.size ≤ M'; have := gd.size; have e0 : W.drew.heap.size = W.heap.size := rfl; omega
      have VN1 : VarAt w1 M' [.int .i64 0, .int .i64 0, .slice none 0 0, .int .i64 0] := by rw [← hw1, ← hM]; exact VV1
      rw [hw1] at gg1 ⊢
      (try rw [show W.drew.heap.size = W.heap.size from rfl])
      (try rw [hM])
      have gA1 : Grow W w1 := gd.trans gg1
      clear VV1 hw1 hM
      have hc2 := hfl w1 gA1
      refine wpT_call (f := ?_) (args := ?_) (by rfl) ?_ ?_
      rotate_left 2; focus (go_simp; constructor <;> with_reducible rfl)
      refine (hc2).mono ?_
      rintro e w2 ⟨vf, rfl, rf, gg2⟩
      refine ⟨_, rfl, Grow.s gg2, ?_⟩
      simp only [Act.put, List.setIfInBounds_toArray, List.set_cons_zero, List.set_cons_succ]
      have gA2 : Grow W w2 := gA1.trans gg2
      have VN2 := VN1.grow gg2
      have hc3 := HT.out vf w2 _ rf
      refine wpT_call (f := ?_) (args := ?_) (by rfl) ?_ ?_
      rotate_left 2; focus (go_simp; constructor <;> with_reducible rfl)
      refine (hc3).mono ?_
      rintro e w3 ⟨vt, rfl, ot, gg3⟩
      refine ⟨_, rfl, Grow.s gg3, ?_⟩
      simp only [Act.put, List.setIfInBounds_toArray, List.set_cons_zero, List.set_cons_succ]
      have gA3 : Grow W w3 := gA2.trans gg3
      obtain ⟨at2, ct, hvt⟩ := ot.shape
      rw [HMl.out.1] at hvt
      subst hvt
      have rt : RdF (fun i => i ≠ X ∧ i ≠ X + 1 ∧ i ≠ M') w3 (.slice at2 L.length ct) M := (OwnS.rd ot).mono (fun i _ hi => by have := HX.out; have := gA2.size; have := VN2.lt; omega)
      have VN3 := VN2.grow gg3
      obtain ⟨⟨y0, y1, y2, y3⟩, f0, f1, f2, f3⟩ := VN3.four
      have HF : Hid (VarAt (put4 w3 M' (.int .i64 V) (.int .i64 H1) (.slice at2 L.length ct) (.int .i64 K)) M' [.int .i64 V, .int .i64 H1, .slice at2 L.length ct, .int .i64 K] ∧ RdF (fun i => i ≠ X ∧ i ≠ X + 1) (put4 w3 M' (.int .i64 V) (.int .i64 H1) (.slice at2 L.length ct) (.int .i64 K)) (.slice at2 L.length ct) M ∧ Grow W (put4 w3 M' (.int .i64 V) (.int .i64 H1) (.slice at2 L.length ct) (.int .i64 K)) ∧ X + 1 < M') := by
        have hm := HM.out
        have hx := HX.out
        have u4 := upd_put4 w3 M' (.int .i64 V) (.int .i64 H1) (.slice at2 L.length ct) (.int .i64 K)
        exact ⟨VN3.put4 _ _ _ _, (RdS.upd rt u4 (fun i _ hi => hi.2.2)).mono (fun i _ hi => ⟨hi.1, hi.2.1⟩), UpdS.new gA3 u4 (fun i hi => by omega), by omega⟩
      refine wpT_store (w' := put4 w3 M' (.int .i64 V) (.int .i64 H1) (.slice at2 L.length ct) (.int .i64 K)) (by rfl) (by unfold put4; go_simp) ((upd_put4 _ _ _ _ _ _).mono (fun i hi => by have := HM.out; omega)) ?_
      simp only [Act.put, List.setIfInBounds_toArray, List.set_cons_zero, List.set_cons_succ]
      generalize put4 w3 M' (.int .i64 V) (.int .i64 H1) (.slice at2 L.length ct) (.int .i64 K) = w9 at HF ⊢
      refine wpT_done ?_
      clear y0 y1 y2 y3 f0 f1 f2 f3 fx
      go_wp2
      go_meet
      exact ⟨_, _, _, rfl, HF⟩
  case rest =>
    clear v0 v1 hfl HT
    obtain ⟨Mb, at2, ct, rfl, HC⟩ := hcut
    obtain ⟨⟨t0, t1, t2, t3⟩, -⟩ := HC.out.1.four
    obtain ⟨⟨v0, v1⟩, -⟩ := (HR.out.2.2.1.grow HC.out.2.2.1).two
    by_cases hK : K = 0
    · have hq : ((K : Int) == 0) = true := by rw [hK]; rfl
      obtain ⟨e1, e2⟩ := HV.out.2.1 hK
      have e3 := HV.out.2.2.1
      rw [if_pos hK] at e3
      have e1' := e1.symm
      have e2' := e2.symm
      subst e1' e2' e3
      clear e1 e2
      obtain ⟨⟨z0, z1⟩, f0, f1⟩ := (HR.out.2.2.2.1.grow HC.out.2.2.1).two
      clear hK
      have HF : Hid (VarAt ((wc.setCell ⟨X + 1, 0, none⟩ (.slice a L.length c)).setCell ⟨X + 1, 1, none⟩ (.int .i64 h)) (X + 1) [.slice a L.length c, .int .i64 h] ∧ RdQ pq ((wc.setCell ⟨X + 1, 0, none⟩ (.slice a L.length c)).setCell ⟨X + 1, 1, none⟩ (.int .i64 h)) (.slice a L.length c) L ∧ Grow w ((wc.setCell ⟨X + 1, 0, none⟩ (.slice a L.length c)).setCell ⟨X + 1, 1, none⟩ (.int .i64 h))) :=
        p_end (HR.out.2.2.2.1.grow HC.out.2.2.1) ((RdS.grow HR.out.1 HC.out.2.2.1).mono (fun i _ hi => ⟨hi.1, by omega⟩)) (by have := HR.out.2.2.2.2; omega) (HR.out.2.1.trans HC.out.2.2.1)
      go_wp2
      exact bodyPost_ret_by (results_cell_tmp rfl _ _ _ _ rfl (load_P _ _ _ _ HF.out.1 rfl)) rfl ⟨_, _, rfl, HF.out.2⟩
    · have hq : ((K : Int) == 0) = false := by rw [beq_eq_false_iff_ne]; omega
      have HQ : Hid (VQ = (V : Int)) := by have := HV.out.2.2.1; rwa [if_neg hK] at this
      have HI0 : Hid (∃ (a1 : Option Addr) (c1 : Nat), VarAt wc X [.slice a1 L.length c1, .int .i64 h] ∧ RdQ (fun i => pq i ∧ i ≠ X ∧ i ≠ X + 1) wc (.slice a1 L.length c1) (mixTo L VL 0) ∧ VarAt wc (X + 1) [.slice none 0 0, .int .i64 0] ∧ VarAt wc Mb [.int .i64 V, .int .i64 H1, .slice at2 L.length ct, .int .i64 K] ∧ RdF (fun i => i ≠ X ∧ i ≠ X + 1) wc (.slice at2 L.length ct) M ∧ Grow w wc ∧ X + 1 < Mb ∧ X + 1 < wc.heap.size) := by
        have hx := HR.out.2.2.2.1.lt
        have hs := HC.out.2.2.1.size
        refine ⟨a, c, HR.out.2.2.1.grow HC.out.2.2.1, ?_, HR.out.2.2.2.1.grow HC.out.2.2.1, HC.out.1, HC.out.2.1, HR.out.2.1.trans HC.out.2.2.1, HC.out.2.2.2, by omega⟩
        rw [mixTo_zero]
        exact (RdS.grow HR.out.1 HC.out.2.2.1).mono (fun i _ hi => ⟨hi.1, by omega, by omega⟩)
      clear hK v0 v1
      go_wp2
      go_loopg [5] L.length (fun m iv wr => ∃ j : Nat, m = L.length - j ∧ j ≤ L.length ∧ iv = .int .i64 j ∧ Hid (∃ (a1 : Option Addr) (c1 : Nat), VarAt wr X [.slice a1 L.length c1, .int .i64 h] ∧ RdQ (fun i => pq i ∧ i ≠ X ∧ i ≠ X + 1) wr (.slice a1 L.length c1) (mixTo L VL j) ∧ VarAt wr (X + 1) [.slice none 0 0, .int .i64 0] ∧ VarAt wr Mb [.int .i64 V, .int .i64 H1, .slice at2 L.length ct, .int .i64 K] ∧ RdF (fun i => i ≠ X ∧ i ≠ X + 1) wr (.slice at2 L.length ct) M ∧ Grow w wr ∧ X + 1 < Mb ∧ X + 1 < wr.heap.size))
      case atStart => exact ⟨0, rfl, by omega, rfl, HI0⟩
      case round =>
        clear HI0 t0 t1 t2 t3
        obtain ⟨j, hj, hj2, rfl, HI⟩ := hrel
        obtain ⟨a1, c1, i1, i2, i3, i4, i5, i6, i7, i8⟩ := HI.out
        have HJ : Hid (VarAt wr X [.slice a1 L.length c1, .int .i64 h] ∧ RdQ (fun i => pq i ∧ i ≠ X ∧ i ≠ X + 1) wr (.slice a1 L.length c1) (mixTo L VL j) ∧ VarAt wr (X + 1) [.slice none 0 0, .int .i64 0] ∧ VarAt wr Mb [.int .i64 V, .int .i64 H1, .slice at2 L.length ct, .int .i64 K] ∧ RdF (fun i => i ≠ X ∧ i ≠ X + 1) wr (.slice at2 L.length ct) M ∧ Grow w wr ∧ X + 1 < Mb ∧ X + 1 < wr.heap.size) := ⟨i1, i2, i3, i4, i5, i6, i7, i8⟩
        clear i1 i2 i3 i4 i5 i6 i7 i8 HI
        obtain ⟨⟨v0, v1⟩, fv0, fv1⟩ := HJ.out.1.two
        obtain ⟨⟨t0, t1, t2, t3⟩, -⟩ := HJ.out.2.2.2.1.four
        by_cases hlt : j < L.length
        · have hle : (j : Int) < (L.length : Int) := by omega
          have HL : Hid (j < L.length ∧ gk = L.length - j) := ⟨hlt, hj⟩
          have hw0 : IntKind.i64.wrap ((j : Int) + 1) = ((j + 1 : Nat) : Int) := by rw [IntKind.wrap_i64]; omega
          obtain ⟨b, o, rfl⟩ : ∃ b o, a1 = some ⟨b, o, none⟩ := by
            obtain ⟨b, o, e, _⟩ := rdQ_at HJ.out.2.1 (i := j) (by rw [mixTo_len]; exact hlt)
            exact ⟨b, o, e⟩
          have hin := rdQ_in HJ.out.2.1 (i := j) (by rw [mixTo_len]; exact hlt)
          rw [mixTo_at hlt, if_neg (by omega)] at hin
          obtain ⟨k0, k1, k2, k3, k4, k5⟩ := hin
          obtain ⟨g, og, rfl, -⟩ := rdF_addr HJ.out.2.2.2.2.1 (by rw [HMl.out.1]; omega)
          obtain ⟨-, -, x2, -⟩ := rdF_in HJ.out.2.2.2.2.1 (i := j) (by rw [HMl.out.1]; exact hlt)
          have HS : Hid (mixTo L VL (j + 1) = (mixTo L VL j).set j ⟨(L.getD j FS.empty).u, (L.getD j FS.empty).d, (M.getD j Fl.zero).r, (L.getD j FS.empty).p, (L.getD j FS.empty).q, (L.getD j FS.empty).bs⟩) := by
            show _ = _
            rw [mixTo_succ hlt, HV.out.2.2.2 j hlt]
          generalize M.getD j Fl.zero = x at x2 HS
          generalize L.getD j FS.empty = s at k0 k1 k2 k3 k4 k5 HS
          have HG0 : Hid (∀ W2 M2, wr.alloc (.cells #[.bool s.u, .bool s.d, .bool x.r, .int .i64 s.p, .int .i64 s.q, .string (strOfNums s.bs)] 68) = W2 → wr.heap.size = M2 → (Grow wr W2 ∧ VarAt W2 M2 [.bool s.u, .bool s.d, .bool x.r, .int .i64 s.p, .int .i64 s.q, .string (strOfNums s.bs)] ∧ X + 1 < M2)) := fun W2 M2 hW2 hM2 =>
            ⟨by rw [← hW2]; exact (Grow.refl wr).alloc _, by rw [← hW2, ← hM2]; exact VarAt.new wr [.bool s.u, .bool s.d, .bool x.r, .int .i64 s.p, .int .i64 s.q, .string (strOfNums s.bs)] 68, by have := HJ.out.2.2.2.2.2.2.2; omega⟩
          have hw0' := fun W2 (g2 : Grow wr W2) => qwith_any W2 (some ⟨b, o, none⟩) c1 (mixTo L VL j) h (by rw [mixTo_len]; exact RdS.grow HJ.out.2.1 g2) (by rw [mixTo_len]; exact hL) j (by rw [mixTo_len]; exact hlt) ⟨s.u, s.d, x.r, s.p, s.q, s.bs⟩
          simp only [mixTo_len] at hw0'
          have lMb : Mb < wr.heap.size := HJ.out.2.2.2.1.lt
          have lg : g < wr.heap.size := World.block_lt_of_cell? _ _ x2
          clear hlt hj fv0 fv1
          go_upto_region 9 with fail
          generalize hM2 : wr.heap.size = M2
          generalize hW2 : wr.alloc (.cells #[.bool s.u, .bool s.d, .bool x.r, .int .i64 s.p, .int .i64 s.q, .string (strOfNums s.bs)] 68) = W2
          have HG : Hid (Grow wr W2 ∧ VarAt W2 M2 [.bool s.u, .bool s.d, .bool x.r, .int .i64 s.p, .int .i64 s.q, .string (strOfNums s.bs)] ∧ X + 1 < M2) := HG0.out W2 M2 hW2 hM2
          have hw := hw0' W2 HG.out.1
          obtain ⟨⟨v0, v1⟩, -⟩ := (HJ.out.1.grow HG.out.1).two
          obtain ⟨⟨y0, y1, y2, y3, y4, y5⟩, -⟩ := VarAt.six HG.out.2.1
          clear lMb lg k0 k1 k2 k3 k4 k5 x2 t0 t1 t2 t3 hW2 hM2 HG0 hw0'
          go_wp2_with fail
          refine hw.mono ?_
          rintro e w4 ⟨a2, c2, rfl, r2, g4⟩
          have HF : Hid (∃ (a1 : Option Addr) (c1 : Nat), (VarAt ((w4.setCell ⟨X, 0, none⟩ (.slice a2 L.length c2)).setCell ⟨X, 1, none⟩ (.int .i64 h)) X [.slice a1 L.length c1, .int .i64 h] ∧ RdQ (fun i => pq i ∧ i ≠ X ∧ i ≠ X + 1) ((w4.setCell ⟨X, 0, none⟩ (.slice a2 L.length c2)).setCell ⟨X, 1, none⟩ (.int .i64 h)) (.slice a1 L.length c1) (mixTo L VL (j + 1)) ∧ VarAt ((w4.setCell ⟨X, 0, none⟩ (.slice a2 L.length c2)).setCell ⟨X, 1, none⟩ (.int .i64 h)) (X + 1) [.slice none 0 0, .int .i64 0] ∧ VarAt ((w4.setCell ⟨X, 0, none⟩ (.slice a2 L.length c2)).setCell ⟨X, 1, none⟩ (.int .i64 h)) Mb [.int .i64 V, .int .i64 H1, .slice (some ⟨g, og, none⟩) L.length ct, .int .i64 K] ∧ RdF (fun i => i ≠ X ∧ i ≠ X + 1) ((w4.setCell ⟨X, 0, none⟩ (.slice a2 L.length c2)).setCell ⟨X, 1, none⟩ (.int .i64 h)) (.slice (some ⟨g, og, none⟩) L.length ct) M ∧ Grow w ((w4.setCell ⟨X, 0, none⟩ (.slice a2 L.length c2)).setCell ⟨X, 1, none⟩ (.int .i64 h)) ∧ X + 1 < Mb ∧ X + 1 < ((w4.setCell ⟨X, 0, none⟩ (.slice a2 L.length c2)).setCell ⟨X, 1, none⟩ (.int .i64 h)).heap.size)) := by
            have u2 := upd_pair w4 X (.slice a2 L.length c2) (.int .i64 h)
            have g5 : Grow wr w4 := HG.out.1.trans g4
            obtain ⟨j1, j2, j3, j4, j5, j6, j7, j8⟩ := HJ.out
            have hX := HR.out.2.2.2.2
            have hs1 := HG.out.1.size
            have hs2 := g4.size
            refine ⟨a2, c2, (j1.grow g5).set2 _ _, ?_, (j3.grow g5).upd u2 (by omega), (j4.grow g5).upd u2 (by omega), RdS.upd (RdS.grow j5 g5) u2 (fun i _ hi => hi.1), UpdS.new (j6.trans g5) u2 (fun i hi => by omega), j7, by have := u2.size; omega⟩
            rw [HS.out]
            exact RdS.upd (r2.mono (fun i _ hi => ⟨HN.out i (by have := j6.size; omega), by omega, by omega⟩)) u2 (fun i _ hi => hi.2.1)
          obtain ⟨⟨v0, v1⟩, fv0, fv1⟩ := (HJ.out.1.grow (HG.out.1.trans g4)).two
          clear hw r2 g4 y0 y1 y2 y3 y4 y5 HJ HG HS
          go_wp2
          generalize (w4.setCell ⟨X, 0, none⟩ (.slice a2 L.length c2)).setCell ⟨X, 1, none⟩ (.int .i64 h) = w5 at HF ⊢
          clear v0 v1 fv0 fv1
          go_roundg (L.length - (j + 1))
          case measure => have := HL.out; omega
          case rel => exact ⟨j + 1, rfl, HL.out.1, by go_num, HF⟩
        · obtain rfl : j = L.length := by omega
          have HF0 := HJ.out.2.1
          rw [mixTo_all HV.out.1] at HF0
          have VX := HJ.out.1.set 1 (.int .i64 H1)
          have uX := upd_one wr X 1 (.int .i64 H1)
          have V1 := HJ.out.2.2.1.upd uX (by omega)
          have VT := HJ.out.2.2.2.1.upd uX (by have := HJ.out.2.2.2.2.2.2.1; omega)
          have RX := RdS.upd HF0 uX (fun i _ hi => hi.2.1)
          have GX : Grow w (wr.setCell ⟨X, 1, none⟩ (.int .i64 H1)) := UpdS.new HJ.out.2.2.2.2.2.1 uX (fun i hi => by have := HR.out.2.2.2.2; omega)
          go_upto_region 11 with fail
          generalize wr.setCell ⟨X, 1, none⟩ (.int .i64 H1) = w6 at VX V1 VT RX GX ⊢
          clear v0 v1 fv0 fv1 t0 t1 t2 t3 HF0
          have gd : Grow w6 w6.drew := (Grow.refl w6).drew
          have HB : Hid (VarAt w6 X [.slice a1 L.length c1, .int .i64 H1] ∧ VarAt w6 (X + 1) [.slice none 0 0, .int .i64 0] ∧ VarAt w6 Mb [.int .i64 V, .int .i64 H1, .slice at2 L.length ct, .int .i64 K] ∧ X + 1 < Mb) := ⟨VX, V1, VT, HJ.out.2.2.2.2.2.2.1⟩
          have HF : Hid (VarAt ((w6.drew.setCell ⟨X + 1, 0, none⟩ (.slice a1 L.length c1)).setCell ⟨X + 1, 1, none⟩ (.int .i64 H1)) (X + 1) [.slice a1 L.length c1, .int .i64 H1] ∧ RdQ pq ((w6.drew.setCell ⟨X + 1, 0, none⟩ (.slice a1 L.length c1)).setCell ⟨X + 1, 1, none⟩ (.int .i64 H1)) (.slice a1 L.length c1) VL ∧ Grow w ((w6.drew.setCell ⟨X + 1, 0, none⟩ (.slice a1 L.length c1)).setCell ⟨X + 1, 1, none⟩ (.int .i64 H1))) :=
            p_end (V1.grow gd) ((RdS.grow RX gd).mono (fun i _ hi => ⟨hi.1, hi.2.2⟩)) (by have := HR.out.2.2.2.2; omega) (GX.trans gd)
          have fx : ∀ w', UpdS (fun i => i = X + 1) w6.drew w' → ((w'.cell? ⟨X, 0, none⟩ = some (.slice a1 L.length c1) ∧ w'.cell? ⟨X, 1, none⟩ = some (.int .i64 H1)) ∧ w'.cell? ⟨Mb, 0, none⟩ = some (.int .i64 V)) := fun w' g =>
            ⟨((HB.out.1.grow gd).upd g (by omega)).two.1, ((HB.out.2.2.1.grow gd).upd g (by have := HB.out.2.2.2; omega)).four.1.1⟩
          obtain ⟨⟨z0, z1⟩, f0, f1⟩ := V1.two
          clear VX V1 VT RX GX HJ uX
          go_wp2
          refine wp_region_schedG (UpdS (fun i => i = X + 1)) (UpdS.refl _) (fun _ _ _ => UpdS.trans) (by kernel_rfl) [(0, false), (1, false), (2, false), (3, true), (4, false)] (by kernel_rfl) (by kernel_rfl) rfl (fun _ _ d _ _ h => by cases d <;> exact h) ?_
          simp only [inOrder, List.filterMap_cons, List.filterMap_nil, List.getElem?_toArray, List.getElem?_cons_zero, List.getElem?_cons_succ, Option.map_some]
          repeat (first
            | (refine wpS_move rfl ?_; simp only [Act.eval, Act.put, Array.getD_eq_getD_getElem?, List.getElem?_toArray, List.getElem?_cons_zero, List.getElem?_cons_succ, Option.getD_some, List.setIfInBounds_toArray, List.set_cons_zero, List.set_cons_succ])
            | (refine wpS_assign rfl ?_; simp only [Act.eval, Act.put, Array.getD_eq_getD_getElem?, List.getElem?_toArray, List.getElem?_cons_zero, List.getElem?_cons_succ, Option.getD_some, List.setIfInBounds_toArray, List.set_cons_zero, List.set_cons_succ])
            | (refine wpS_read (v := ?_) rfl ?_ ?_; rotate_left; (focus (intro w' hG; obtain ⟨⟨q0, q1⟩, q2⟩ := fx w' hG; go_simp; try (with_reducible rfl))); simp only [Act.put, List.setIfInBounds_toArray, List.set_cons_zero, List.set_cons_succ])
            | (refine wpS_skip rfl ?_; simp only [Act.put, List.setIfInBounds_toArray, List.set_cons_zero, List.set_cons_succ]))
          refine wpS_store (w' := (w6.drew.setCell ⟨X + 1, 0, none⟩ (.slice a1 L.length c1)).setCell ⟨X + 1, 1, none⟩ (.int .i64 H1)) (by rfl) (by go_simp) (upd_pair _ _ _ _) ?_
          simp only [Act.put, List.setIfInBounds_toArray, List.set_cons_zero, List.set_cons_succ]
          repeat (first
            | (refine wpS_move rfl ?_; simp only [Act.eval, Act.put, Array.getD_eq_getD_getElem?, List.getElem?_toArray, List.getElem?_cons_zero, List.getElem?_cons_succ, Option.getD_some, List.setIfInBounds_toArray, List.set_cons_zero, List.set_cons_succ])
            | (refine wpS_assign rfl ?_; simp only [Act.eval, Act.put, Array.getD_eq_getD_getElem?, List.getElem?_toArray, List.getElem?_cons_zero, List.getElem?_cons_succ, Option.getD_some, List.setIfInBounds_toArray, List.set_cons_zero, List.set_cons_succ])
            | (refine wpS_read (v := ?_) rfl ?_ ?_; rotate_left; (focus (intro w' hG; skip; go_simp; try (with_reducible rfl))); simp only [Act.put, List.setIfInBounds_toArray, List.set_cons_zero, List.set_cons_succ])
            | (refine wpS_skip rfl ?_; simp only [Act.put, List.setIfInBounds_toArray, List.set_cons_zero, List.set_cons_succ]))
          refine wpS_nil ?_
          generalize (w6.drew.setCell ⟨X + 1, 0, none⟩ (.slice a1 L.length c1)).setCell ⟨X + 1, 1, none⟩ (.int .i64 H1) = w7 at HF ⊢
          clear fx z0 z1 f0 f1 gd
          go_wp2
          exact bodyPost_ret_by (results_cell_tmp rfl _ _ _ _ rfl (load_P _ _ _ _ HF.out.1 rfl)) rfl ⟨_, _, by rw [HQ.out]; rfl, HF.out.2⟩
end Go.Proofs.Ythdhfojogckflaa
