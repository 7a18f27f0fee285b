/-
  The walk of FrameKeeps. Conditions: the theorem's own.
-/
import Derived.Test.YtcmehefaceaioaaFraV
import Derived.Test.YtcmehefaceaioaaCelFill
import Derived.Test.YtcmehefaceaioaaBase
import Derived.Test.YtcmehefaceaioaaCelRPut
import Derived.Test.YtcmehefaceaioaaAround
namespace Go.Proofs.Ytcmehefaceaioaa
open Go.RowKit
set_option linter.unusedVariables false
set_option linter.unusedSimpArgs false

theorem put_mid {fs A : List Int} {K : Nat} (h : fs.length = 32) (hA : K + A.length ≤ 32) : putted fs (K : Int) A = (midL fs K A, 0) := by
  unfold putted
  rw [h, fitE_ok (by omega), if_pos rfl, Int.toNat_natCast]
theorem got_mid {fs A : List Int} {K : Nat} (h : fs.length = 32) (hA : K + A.length ≤ 32) : got (midL fs K A) (K : Int) (A.length : Int) = (A, 0) := by
  unfold got
  rw [midL_length (by omega), h, fitE_ok (by omega), if_pos rfl, Int.toNat_natCast, Int.toNat_natCast]
  unfold midL
  have e1 : (fs.take K).length = K := by rw [List.length_take]; omega
  rw [List.append_assoc, List.drop_left' e1, List.take_left' rfl]

set_option maxRecDepth 8000 in
set_option maxHeartbeats 4000000 in
theorem frameKeeps_walk (v0 v2 : Value) (zs ys : List Int) (off : Int) (w : World) (h0 : Rd .u8 w.heap.size w v0 zs) (hof : (Lit.int .i64 off).wf = true) (h2 : Rd .u8 w.heap.size w v2 ys) :
    Calls Try.prog 7 #[v0, .int .i64 off, v2] w fun e w' => e = .returned (.bool true) ∧ Grow w w' := by
  have hF := fill_any v0 zs 32 32 _ w rfl h0 (by omega)
  have HL : Hid ((fillL zs 32).length = 32) := fillL_length zs 32
  generalize fillL zs 32 = fs at hF HL
  obtain ⟨a0, c0, rfl⟩ := h0.v.shape
  obtain ⟨a2, c2, hv2⟩ := h2.v.shape
  subst hv2
  have H2 : Hid (Rd .u8 w.heap.size w (.slice a2 ys.length c2) ys) := h2
  have hr := fun w => around_any off 33 w hof (by omega) (by omega)
  have hrb := around_bd off 33 (by omega)
  obtain ⟨K, hK⟩ := Int.eq_ofNat_of_zero_le hrb.1
  rw [hK] at hrb
  simp only [hK] at hr
  have hK32 : K ≤ 32 := by omega
  have hwK : IntKind.i64.wrap (32 - (K : Int)) = ((32 - K : Nat) : Int) := by rw [IntKind.wrap_i64]; omega
  clear hrb hK hof h0 h2
  go_enter Try.func7, Try.ntmps7
  go_wp2_with fail
  refine hF.mono ?_
  rintro e w1 ⟨v1, rfl, ho1, g1⟩
  obtain ⟨a1, c1, hv1⟩ := ho1.v.shape
  rw [HL.out] at hv1
  subst hv1
  have H1 : Hid (OwnV (Value.int .u8) 0 (fun i => i < w1.heap.size) w1 (.slice a1 32 c1) fs ∧ Grow w w1) := ⟨ho1.v.mono (fun i hi _ => hi), g1⟩
  have hW := fewB_any _ ys ((32 - K : Nat) : Int) (32 - K) _ w1 rfl (H2.out.v.grow g1).i (by omega)
  have HA : Hid (K + (ys.take (32 - K)).length ≤ 32) := by show K + (ys.take (32 - K)).length ≤ 32; rw [List.length_take]; omega
  generalize ys.take (32 - K) = A at hW HA
  have hc32 : ((32 - K : Nat) : Int) = 32 - (K : Int) := by omega
  rw [hc32] at hW hwK
  clear ho1 g1 hF hc32
  go_wp2_with fail
  refine (hr _).mono ?_
  rintro e w1' ⟨rfl, rfl⟩
  clear hr
  go_wp2_with fail
  refine hW.mono ?_
  rintro e w2 ⟨v2, rfl, ho2, g2⟩
  obtain ⟨a3, c3, hv3⟩ := ho2.v.shape
  subst hv3
  obtain ⟨W1, hW1⟩ : ∃ W1, w2.alloc (.cells zeroF 28) = W1 := ⟨_, rfl⟩
  have F1 := FrAt.new w2 28
  rw [hW1] at F1
  have g3 : Grow w2 W1 := by rw [← hW1]; exact (Grow.refl w2).alloc _
  obtain ⟨b, hb⟩ : ∃ b, w2.heap.size = b := ⟨_, rfl⟩
  rw [hb] at F1
  have hlt1 := F1.lt
  have H3 : Hid (OwnV (Value.int .u8) 0 (fun i => i < b) W1 (.slice a1 32 c1) fs ∧ OwnV (Value.int .u8) 0 (fun i => i < b) W1 (.slice a3 A.length c3) A ∧ Grow w W1 ∧ w.heap.size ≤ b) :=
    ⟨((H1.out.1.grow g2).mono (fun i hi _ => by omega)).grow g3, (ho2.v.mono (fun i hi _ => by omega)).grow g3, (H1.out.2.trans g2).trans g3, by have := (H1.out.2.trans g2).size; omega⟩
  have hL := load_yes W1 b _ _ _ _ _ _ F1 9 a1 c1 fs (H3.out.1.rd.mono (fun i _ hi => by omega))
  clear hW ho2 g2 g3 F1 H1 H2
  go_wp2_with fail
  (try rw [zeroF_lit])
  (try rw [hW1])
  (try rw [hb])
  refine hL.mono ?_
  rintro e w4 ⟨rfl, F4, u4⟩
  have hP := pin_yes w4 b _ _ _ _ _ _ F4 rfl (by omega) (by omega)
  have U4 : Hid (UpdS (fun i => i = b) W1 w4) := u4
  clear hL hW1 hb F4 u4
  go_wp2_with fail
  refine hP.mono ?_
  rintro e w5 ⟨rfl, F5, u5⟩
  have u45 := U4.out.trans u5
  have R2 := H3.out.2.1.upd u45 (fun i _ hi e => by omega)
  have hMl : (midL fs K A).length = 32 := by rw [midL_length (by rw [HL.out]; exact HA.out), HL.out]
  have hU := fput_yes w5 b _ _ _ _ _ _ F5 K _ A _ (midL fs K A) R2.rd (by omega) (wfI (by omega)) (put_mid HL.out HA.out) hMl
  have hRp := fun w (h1 : OwnV (Value.int .u8) 0 (fun i => i < b) w (.slice a1 32 c1) fs) (h2 : OwnV (Value.int .u8) 0 (fun i => i < b) w (.slice a3 A.length c3) A) => rputp_any _ _ fs A K _ _ w h1.rd.i h2.rd.i (wfI (by omega))
  simp only [put_mid HL.out HA.out] at hRp
  have HGM : Hid (got (midL fs K A) (K : Int) (A.length : Int) = (A, 0)) := got_mid HL.out HA.out
  generalize midL fs K A = M at hU hRp HGM
  have U5 : Hid (UpdS (fun i => i = b) W1 w5) := u45
  clear hP F5 u5 u45 R2 hMl
  go_wp2_with fail
  refine hU.mono ?_
  rintro e w6 ⟨rfl, F6, u6⟩
  have hAl : A.length ≤ 32 := by have := HA.out; omega
  have hG := fget_yes w6 b _ _ _ _ _ _ F6 K A.length A (by omega) (wfI (by omega)) (wfI (by omega)) HGM.out
  have U6 : Hid (UpdS (fun i => i = b) W1 w6 ∧ b < w6.heap.size) := ⟨U5.out.trans u6, F6.lt⟩
  have hcapA := H3.out.2.1.rd.caps.2
  have hca : A.length ≤ c3 := hcapA.1
  have hcb : c3 ≤ 9223372036854775807 := hcapA.2
  clear hU F6 u6 hcapA
  go_wp2_with fail
  refine hG.mono ?_
  rintro e w7 ⟨v7, rfl, ho7, F7, u7⟩
  have u17 := U6.out.1.trans u7
  have R1 := H3.out.1.upd u17 (fun i _ hi e => by omega)
  have R3 := H3.out.2.1.upd u17 (fun i _ hi e => by omega)
  have hR := hRp w7 R1 R3
  have H7 : Hid (FrAt w7 b true true true 1 9 M ∧ OwnV (Value.int .u8) 0 (fun i => b < i) w7 v7 A ∧ OwnV (Value.int .u8) 0 (fun i => i < b) w7 (.slice a3 A.length c3) A ∧ Grow w w7) := ⟨F7, ho7.mono (fun i _ hi => by have := U6.out.2; omega), R3, UpdS.new H3.out.2.2.1 u17 (fun i hi => by have := H3.out.2.2.2; omega)⟩
  obtain ⟨a7, c7, rfl⟩ := ho7.shape
  clear hG ho7 F7 u7 u17 R1 R3 hRp
  go_wp2_with fail
  refine hR.mono ?_
  rintro e w8 ⟨v8, rfl, ho8, g8⟩
  have gd : Grow w8 w8.drew := (Grow.refl w8).drew
  have F8 := (H7.out.1.grow g8).grow gd
  have hB := bytes_any w8.drew b _ _ _ _ _ _ F8
  have fx : ∀ w', Grow w8.drew w' → (w'.cell? ⟨b, 0, none⟩ = some (.bool true) ∧ w'.cell? ⟨b, 1, none⟩ = some (.bool true) ∧ w'.cell? ⟨b, 2, none⟩ = some (.bool true) ∧ w'.cell? ⟨b, 3, none⟩ = some (.int .i64 1) ∧ w'.cell? ⟨b, 4, none⟩ = some (.int .i64 9)) := fun w' g => (F8.grow g).five.1
  have k1 : ∀ w', Grow w8.drew w' → (convert 35 9 (.slice a7 A.length c7)).run Try.prog w' = .ok (.string (strOfNums A)) w' := fun w' g => ((H7.out.2.1.rd.grow g8).grow (gd.trans g)).i.string 35 9 5 Try.underlying35 Try.underlying5 Try.underlying9
  have k2 : ∀ w', Grow w8.drew w' → (convert 35 9 (.slice a3 A.length c3)).run Try.prog w' = .ok (.string (strOfNums A)) w' := fun w' g => ((H7.out.2.2.1.rd.grow g8).grow (gd.trans g)).i.string 35 9 5 Try.underlying35 Try.underlying5 Try.underlying9
  have k3 : ∀ w', Grow w8.drew w' → (convert 35 9 v8).run Try.prog w' = .ok (.string (strOfNums M)) w' := fun w' g => (ho8.v.rd.grow (gd.trans g)).i.string 35 9 5 Try.underlying35 Try.underlying5 Try.underlying9
  have HG8 : Hid (Grow w w8) := H7.out.2.2.2.trans g8
  clear F8 hR ho8 g8 H7
  go_wp2
  refine wp_region_sched (by kernel_rfl) [(0, false), (1, false), (2, false), (3, false), (4, false), (5, false), (6, false), (7, false), (8, false), (9, false), (10, false), (11, false), (12, false), (13, false), (14, false), (17, false), (18, false), (15, true), (16, false), (19, false), (20, false), (21, false), (22, false), (23, false), (24, false), (25, false), (26, false), (27, false), (28, false), (29, false), (30, false), (31, false), (32, false), (33, false), (34, false), (35, false), (36, false), (37, false), (38, false), (39, false), (40, false), (41, false), (42, false), (43, false), (44, false), (45, false), (46, false), (47, false), (48, false), (49, false), (50, false), (51, true), (52, false), (53, false)] (by kernel_rfl) (by kernel_rfl) rfl (fun _ _ d _ _ h => by cases d <;> exact h) ?_
  simp only [inOrder, List.filterMap_cons, List.filterMap_nil, List.getElem?_toArray, List.getElem?_cons_zero, List.getElem?_cons_succ, Option.map_some]
  repeat (first
    | (refine wpS_move rfl ?_; simp only [Act.eval, Act.put, Array.getD_eq_getD_getElem?, List.getElem?_toArray, List.getElem?_cons_zero, List.getElem?_cons_succ, Option.getD_some, List.setIfInBounds_toArray, List.set_cons_zero, List.set_cons_succ])
    | (refine wpS_assign rfl ?_; simp only [Act.eval, Act.put, Array.getD_eq_getD_getElem?, List.getElem?_toArray, List.getElem?_cons_zero, List.getElem?_cons_succ, Option.getD_some, List.setIfInBounds_toArray, List.set_cons_zero, List.set_cons_succ])
    | (refine wpS_read (v := ?_) rfl ?_ ?_; rotate_left; (focus (intro w' hG; have q1 := k1 w' hG; have q2 := k2 w' hG; have q3 := k3 w' hG; go_simp; try (with_reducible rfl))); simp only [Act.put, List.setIfInBounds_toArray, List.set_cons_zero, List.set_cons_succ])
    | (refine wpS_skip rfl ?_; simp only [Act.put, List.setIfInBounds_toArray, List.set_cons_zero, List.set_cons_succ]))
  refine wpS_call (f := ?_) (args := ?_) (by rfl) ?_ ?_
  rotate_left 2; focus (go_simp; constructor <;> with_reducible rfl)
  refine (hB).mono ?_
  rintro e w10 ⟨v10, rfl, ho10, g10⟩
  refine ⟨_, rfl, g10, ?_⟩
  simp only [Act.put, List.setIfInBounds_toArray, List.set_cons_zero, List.set_cons_succ]
  have k4 : ∀ w', Grow w10 w' → (convert 35 9 v10).run Try.prog w' = .ok (.string (strOfNums M)) w' := fun w' g => (ho10.rd.grow g).i.string 35 9 5 Try.underlying35 Try.underlying5 Try.underlying9
  have fx2 : ∀ w', Grow w10 w' → (w'.cell? ⟨b, 0, none⟩ = some (.bool true) ∧ w'.cell? ⟨b, 1, none⟩ = some (.bool true) ∧ w'.cell? ⟨b, 2, none⟩ = some (.bool true) ∧ w'.cell? ⟨b, 3, none⟩ = some (.int .i64 1) ∧ w'.cell? ⟨b, 4, none⟩ = some (.int .i64 9)) := fun w' g => fx w' (g10.trans g)
  repeat (first
    | (refine wpS_move rfl ?_; simp only [Act.eval, Act.put, Array.getD_eq_getD_getElem?, List.getElem?_toArray, List.getElem?_cons_zero, List.getElem?_cons_succ, Option.getD_some, List.setIfInBounds_toArray, List.set_cons_zero, List.set_cons_succ])
    | (refine wpS_assign rfl ?_; simp only [Act.eval, Act.put, Array.getD_eq_getD_getElem?, List.getElem?_toArray, List.getElem?_cons_zero, List.getElem?_cons_succ, Option.getD_some, List.setIfInBounds_toArray, List.set_cons_zero, List.set_cons_succ])
    | (refine wpS_read (v := ?_) rfl ?_ ?_; rotate_left; (focus (intro w' hG; have q4 := k4 w' hG; obtain ⟨q5, q6, q7, q8, q9⟩ := fx2 w' hG; go_simp; try (with_reducible rfl))); simp only [Act.put, List.setIfInBounds_toArray, List.set_cons_zero, List.set_cons_succ])
    | (refine wpS_skip rfl ?_; simp only [Act.put, List.setIfInBounds_toArray, List.set_cons_zero, List.set_cons_succ]))
  refine wpS_call (f := ?_) (args := ?_) (by rfl) ?_ ?_
  rotate_left 2; focus (go_simp; constructor <;> with_reducible rfl)
  refine (lives_any w10).mono ?_
  rintro e w11 ⟨rfl, g11⟩
  refine ⟨_, rfl, g11, ?_⟩
  simp only [Act.put, List.setIfInBounds_toArray, List.set_cons_zero, List.set_cons_succ]
  repeat (first
    | (refine wpS_move rfl ?_; simp only [Act.eval, Act.put, Array.getD_eq_getD_getElem?, List.getElem?_toArray, List.getElem?_cons_zero, List.getElem?_cons_succ, Option.getD_some, List.setIfInBounds_toArray, List.set_cons_zero, List.set_cons_succ])
    | (refine wpS_assign rfl ?_; simp only [Act.eval, Act.put, Array.getD_eq_getD_getElem?, List.getElem?_toArray, List.getElem?_cons_zero, List.getElem?_cons_succ, Option.getD_some, List.setIfInBounds_toArray, List.set_cons_zero, List.set_cons_succ])
    | (refine wpS_read (v := ?_) rfl ?_ ?_; rotate_left; (focus (intro w' hG; skip; go_simp; try (with_reducible rfl))); simp only [Act.put, List.setIfInBounds_toArray, List.set_cons_zero, List.set_cons_succ])
    | (refine wpS_skip rfl ?_; simp only [Act.put, List.setIfInBounds_toArray, List.set_cons_zero, List.set_cons_succ]))
  refine wpS_nil ?_
  go_wp2
  go_ret
  exact ⟨rfl, ((HG8.out.trans gd).trans g10).trans g11⟩
end Go.Proofs.Ytcmehefaceaioaa
