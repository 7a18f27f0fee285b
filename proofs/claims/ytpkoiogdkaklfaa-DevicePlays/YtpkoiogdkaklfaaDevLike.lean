/-
  The walk of the law's 'like': a device and the document's that have the same are told so. Conditions: the theorem's own.
-/
import Derived.Test.YtpkoiogdkaklfaaDevDocL
import Derived.Test.YtpkoiogdkaklfaaDevGo
namespace Go.Proofs.Ytpkoiogdkaklfaa
open Go.RowKit
set_option linter.unusedVariables false
set_option linter.unusedSimpArgs false

theorem readL_oct {las lat : List (List Int)} {hd : List Int} (ok : DevOk las lat hd) (k : Int) : Oct (lastingL las k).1 ∧ Oct (readL las lat k).1 := by
  have h1 : Oct (lastingL las k).1 := by
    unfold lastingL
    split
    · rename_i h
      exact opened_oct (ok.2.1 k.toNat (by omega)).2
    · intro x hx; cases hx
  refine ⟨h1, ?_⟩
  unfold readL
  split
  · rename_i h
    exact opened_oct (ok.2.2.1 k.toNat h.1).2
  · exact h1

set_option maxRecDepth 16000 in
set_option maxHeartbeats 4000000 in
theorem dlike_any (w : World) (p q : Nat → Prop) (b bl bt s : Nat) (las lat : List (List Int)) (hd : List Int) (lv tv hv : Value) (h : DevAt w p b bl bt s las lat hd) (hq : DocV q w lv tv hv las lat hd) :
    Calls Try.prog 13 #[.pointer (some ⟨b, 0, none⟩), .agg #[lv, tv, hv]] w fun e w' => e = .returned (.bool true) ∧ Grow w w' := by
  have H : Hid (DevAt w p b bl bt s las lat hd ∧ DocV q w lv tv hv las lat hd) := ⟨h, hq⟩
  have ok := h.ok
  obtain ⟨a, c, rfl, hc1, hc2⟩ := hq.1.shape
  obtain ⟨a2, c2, rfl, hd1, hd2⟩ := hq.2.1.shape
  obtain ⟨a3, c3, rfl⟩ := hq.2.2.shape
  have hlb := ok.2.2.2.2.2
  have hlb' : (las.length : Int) ≤ 1024 := by omega
  unfold maxLen at hc2 hd2
  have HV : Hid (VarAt (w.alloc (.cells #[.slice a las.length c, .slice a2 lat.length c2, .slice a3 hd.length c3] 31)) w.heap.size [.slice a las.length c, .slice a2 lat.length c2, .slice a3 hd.length c3] ∧ Grow w (w.alloc (.cells #[.slice a las.length c, .slice a2 lat.length c2, .slice a3 hd.length c3] 31))) := ⟨VarAt.new w [.slice a las.length c, .slice a2 lat.length c2, .slice a3 hd.length c3] 31, (Grow.refl w).alloc _⟩
  have HK : Hid (DevOk las lat hd) := ok
  clear h hq ok
  go_enter Try.func13, Try.ntmps13
  go_wp2
  go_loopg [5] (las.length + 2) (fun k i wr => ∃ kk : Int, (k : Int) = las.length + 1 - kk ∧ -1 ≤ kk ∧ kk ≤ las.length + 1 ∧ i = .int .i64 kk ∧ Hid (VarAt wr w.heap.size [.slice a las.length c, .slice a2 lat.length c2, .slice a3 hd.length c3] ∧ Grow w wr))
  case atStart => exact ⟨-1, by omega, by omega, by omega, rfl, HV⟩
  case round =>
    obtain ⟨kk, hk, hk1, hk2, rfl, HG⟩ := hrel
    obtain ⟨⟨x0, x1, x2⟩, -⟩ := HG.out.1.three
    by_cases hlt : kk ≤ las.length
    · have hwk : (Lit.int .i64 kk).wf = true := wfI (by omega)
      have HJ : Hid (kk ≤ las.length ∧ (gk : Int) = las.length + 1 - kk ∧ -1 ≤ kk) := ⟨hlt, hk, hk1⟩
      have hwa : IntKind.i64.wrap (kk + 1) = kk + 1 := by rw [IntKind.wrap_i64]; omega
      have r1 := fun w' (g : Grow w w') => dread_any w' p b bl bt s las lat hd (H.out.1.grow g) kk hwk
      have r2 := fun w' (g : Grow w w') => qread_any q _ _ _ las lat hd w' (H.out.2.grow g) HK.out kk hwk
      have r3 := fun w' (g : Grow w w') => dlasting_any w' p b bl bt s las lat hd (H.out.1.grow g) kk hwk
      have r4 := fun w' (g : Grow w w') => qlasting_any q _ _ _ las lat hd w' (H.out.2.grow g) HK.out kk hwk
      generalize readL las lat kk = T at r1 r2
      generalize lastingL las kk = U at r3 r4
      obtain ⟨T1, T2⟩ := T
      obtain ⟨U1, U2⟩ := U
      clear hk hk1 hk2
      go_wp2_with fail
      refine (r1 wr HG.out.2).mono ?_
      rintro e w1 ⟨v1, rfl, ho1, hb1⟩
      have G1 : Hid (Grow w w1 ∧ VarAt w1 w.heap.size [.slice a las.length c, .slice a2 lat.length c2, .slice a3 hd.length c3] ∧ Rd .u8 w1.heap.size w1 v1 T1) := ⟨HG.out.2.trans hb1, HG.out.1.grow hb1, ho1.rd⟩
      obtain ⟨⟨y0, y1, y2⟩, -⟩ := G1.out.2.1.three
      clear ho1 hb1 x0 x1 x2
      go_wp2_with fail
      refine (r2 w1 G1.out.1).mono ?_
      rintro e w2 ⟨v2, rfl, ho2, hb2⟩
      have G2 : Hid (Grow w w2 ∧ VarAt w2 w.heap.size [.slice a las.length c, .slice a2 lat.length c2, .slice a3 hd.length c3] ∧ Rd .u8 w2.heap.size w2 v1 T1 ∧ Rd .u8 w2.heap.size w2 v2 T1) := ⟨G1.out.1.trans hb2, G1.out.2.1.grow hb2, (Rd.below G1.out.2.2 hb2).size, ho2⟩
      clear ho2 hb2 y0 y1 y2 G1
      go_wp2_with fail
      refine (r3 w2 G2.out.1).mono ?_
      rintro e w3 ⟨v3, rfl, ho3, hb3⟩
      have G3 : Hid (Grow w w3 ∧ VarAt w3 w.heap.size [.slice a las.length c, .slice a2 lat.length c2, .slice a3 hd.length c3] ∧ Rd .u8 w3.heap.size w3 v1 T1 ∧ Rd .u8 w3.heap.size w3 v2 T1 ∧ Rd .u8 w3.heap.size w3 v3 U1) := ⟨G2.out.1.trans hb3, G2.out.2.1.grow hb3, (Rd.below G2.out.2.2.1 hb3).size, (Rd.below G2.out.2.2.2 hb3).size, ho3.rd⟩
      obtain ⟨⟨y0, y1, y2⟩, -⟩ := G3.out.2.1.three
      clear ho3 hb3 G2
      go_wp2_with fail
      refine (r4 w3 G3.out.1).mono ?_
      rintro e w4 ⟨v4, rfl, ho4, hb4⟩
      have G4 : Hid (Grow w w4 ∧ VarAt w4 w.heap.size [.slice a las.length c, .slice a2 lat.length c2, .slice a3 hd.length c3]) := ⟨G3.out.1.trans hb4, G3.out.2.1.grow hb4⟩
      have s1 := (Rd.below G3.out.2.2.1 hb4).string (P := Try.prog) 29 9 5 Try.underlying29 Try.underlying5 Try.underlying9
      have s2 := (Rd.below G3.out.2.2.2.1 hb4).string (P := Try.prog) 29 9 5 Try.underlying29 Try.underlying5 Try.underlying9
      have s3 := (Rd.below G3.out.2.2.2.2 hb4).string (P := Try.prog) 29 9 5 Try.underlying29 Try.underlying5 Try.underlying9
      have s4 := ho4.string (P := Try.prog) 29 9 5 Try.underlying29 Try.underlying5 Try.underlying9
      clear ho4 hb4 y0 y1 y2 G3 r1 r2 r3 r4 hlt
      go_wp2
      go_roundg ((las.length + 1 - (kk + 1)).toNat)
      case measure => have := HJ.out; omega
      case rel => exact ⟨kk + 1, by have := HJ.out; omega, by have := HJ.out; omega, by have := HJ.out; omega, by go_num, G4.out.2, G4.out.1⟩
    · have gd : Grow wr wr.drew := (Grow.refl wr).drew
      have hn1 : (Lit.int .i64 (las.length : Int)).wf = true := wfI (by omega)
      have fx : ∀ w', Grow wr.drew w' → w'.cell? ⟨w.heap.size, 0, none⟩ = some (.slice a las.length c) ∧ w'.cell? ⟨w.heap.size, 1, none⟩ = some (.slice a2 lat.length c2) ∧ w'.cell? ⟨w.heap.size, 2, none⟩ = some (.slice a3 hd.length c3) := fun w' g => ((HG.out.1.grow (gd.trans g)).three).1
      have gw : Grow w wr := HG.out.2
      have kh : ∀ w', Grow wr.drew w' → (convert 29 9 (.slice a3 hd.length c3)).run Try.prog w' = .ok (.string (strOfNums hd)) w' := fun w' g => (((H.out.2.2.2.grow gw).grow (gd.trans g)).i).string 29 9 5 Try.underlying29 Try.underlying5 Try.underlying9
      have h1 := dlen_any wr.drew p b bl bt s las lat hd ((H.out.1.grow gw).grow gd)
      have h2 := dlater_any wr.drew p b bl bt s las lat hd ((H.out.1.grow gw).grow gd) 0 las.length (by decide) hn1
      have HX : Hid (∀ x ∈ laterL lat 0 (las.length : Int), x < 100000) := fun x hx => by have h1 := (mem_laterL.1 hx).1; have h2 := HK.out.1; omega
      go_wp2
      refine wp_region_sched (by kernel_rfl) [(0, false), (2, false), (3, false), (4, false), (1, true), (5, false), (6, false), (7, false), (8, false), (9, false), (10, false), (12, false), (13, false), (14, false), (15, false), (11, true), (16, true), (17, true), (18, false), (19, false), (20, false), (23, false), (24, false), (25, false), (21, true), (22, false), (26, false), (27, false), (28, false)] (by kernel_rfl) (by kernel_rfl) rfl (fun _ _ d _ _ h => by cases d <;> exact h) ?_
      simp only [inOrder, List.filterMap_cons, List.filterMap_nil, List.getElem?_toArray, List.getElem?_cons_zero, List.getElem?_cons_succ, Option.map_some]
      repeat (first
        | (refine wpS_move rfl ?_; simp only [Act.eval, Act.put, Array.getD_eq_getD_getElem?, List.getElem?_toArray, List.getElem?_cons_zero, List.getElem?_cons_succ, Option.getD_some, List.setIfInBounds_toArray, List.set_cons_zero, List.set_cons_succ])
        | (refine wpS_assign rfl ?_; simp only [Act.eval, Act.put, Array.getD_eq_getD_getElem?, List.getElem?_toArray, List.getElem?_cons_zero, List.getElem?_cons_succ, Option.getD_some, List.setIfInBounds_toArray, List.set_cons_zero, List.set_cons_succ])
        | (refine wpS_read (v := ?_) rfl ?_ ?_; rotate_left; (focus (intro w' hG; obtain ⟨z0, z1, z2⟩ := fx w' hG; go_simp; try (with_reducible rfl))); simp only [Act.put, List.setIfInBounds_toArray, List.set_cons_zero, List.set_cons_succ])
        | (refine wpS_skip rfl ?_; simp only [Act.put, List.setIfInBounds_toArray, List.set_cons_zero, List.set_cons_succ]))
      refine wpS_call (f := ?_) (args := ?_) (by rfl) ?_ ?_
      rotate_left 2; focus (go_simp; constructor <;> with_reducible rfl)
      refine (h1).mono ?_
      rintro e w5 ⟨rfl, rfl⟩
      refine ⟨_, rfl, Grow.refl _, ?_⟩
      simp only [Act.put, List.setIfInBounds_toArray, List.set_cons_zero, List.set_cons_succ]
      repeat (first
        | (refine wpS_move rfl ?_; simp only [Act.eval, Act.put, Array.getD_eq_getD_getElem?, List.getElem?_toArray, List.getElem?_cons_zero, List.getElem?_cons_succ, Option.getD_some, List.setIfInBounds_toArray, List.set_cons_zero, List.set_cons_succ])
        | (refine wpS_assign rfl ?_; simp only [Act.eval, Act.put, Array.getD_eq_getD_getElem?, List.getElem?_toArray, List.getElem?_cons_zero, List.getElem?_cons_succ, Option.getD_some, List.setIfInBounds_toArray, List.set_cons_zero, List.set_cons_succ])
        | (refine wpS_read (v := ?_) rfl ?_ ?_; rotate_left; (focus (intro w' hG; obtain ⟨z0, z1, z2⟩ := fx w' hG; go_simp; try (with_reducible rfl))); simp only [Act.put, List.setIfInBounds_toArray, List.set_cons_zero, List.set_cons_succ])
        | (refine wpS_skip rfl ?_; simp only [Act.put, List.setIfInBounds_toArray, List.set_cons_zero, List.set_cons_succ]))
      refine wpS_call (f := ?_) (args := ?_) (by rfl) ?_ ?_
      rotate_left 2; focus (go_simp; constructor <;> with_reducible rfl)
      refine (h2).mono ?_
      rintro e w6 ⟨v6, rfl, ho6, g6⟩
      refine ⟨v6, rfl, g6, ?_⟩
      simp only [Act.put, List.setIfInBounds_toArray, List.set_cons_zero, List.set_cons_succ]
      have h3 := qlater_any q _ _ _ las lat hd w6 (((H.out.2.grow gw).grow gd).grow g6) HK.out 0 las.length (by decide) hn1
      refine wpS_call (f := ?_) (args := ?_) (by rfl) ?_ ?_
      rotate_left 2; focus (go_simp; constructor <;> with_reducible rfl)
      refine (h3).mono ?_
      rintro e w7 ⟨v7, rfl, ho7, g7⟩
      refine ⟨v7, rfl, g7, ?_⟩
      simp only [Act.put, List.setIfInBounds_toArray, List.set_cons_zero, List.set_cons_succ]
      have h4 := samei_any v6 v7 _ _ _ _ w7 (ho6.rd.grow g7) ho7.rd HX.out HX.out
      rw [decide_eq_true rfl] at h4
      refine wpS_call (f := ?_) (args := ?_) (by rfl) ?_ ?_
      rotate_left 2; focus (go_simp; constructor <;> with_reducible rfl)
      refine (h4).mono ?_
      rintro e w8 ⟨rfl, g8⟩
      refine ⟨_, rfl, g8, ?_⟩
      simp only [Act.put, List.setIfInBounds_toArray, List.set_cons_zero, List.set_cons_succ]
      have g68 : Grow wr.drew w8 := (g6.trans g7).trans g8
      have fx8 : ∀ w', Grow w8 w' → w'.cell? ⟨w.heap.size, 2, none⟩ = some (.slice a3 hd.length c3) := fun w' g => (fx w' (g68.trans g)).2.2
      have kh8 : ∀ w', Grow w8 w' → (convert 29 9 (.slice a3 hd.length c3)).run Try.prog w' = .ok (.string (strOfNums hd)) w' := fun w' g => kh w' (g68.trans g)
      repeat (first
        | (refine wpS_move rfl ?_; simp only [Act.eval, Act.put, Array.getD_eq_getD_getElem?, List.getElem?_toArray, List.getElem?_cons_zero, List.getElem?_cons_succ, Option.getD_some, List.setIfInBounds_toArray, List.set_cons_zero, List.set_cons_succ])
        | (refine wpS_assign rfl ?_; simp only [Act.eval, Act.put, Array.getD_eq_getD_getElem?, List.getElem?_toArray, List.getElem?_cons_zero, List.getElem?_cons_succ, Option.getD_some, List.setIfInBounds_toArray, List.set_cons_zero, List.set_cons_succ])
        | (refine wpS_read (v := ?_) rfl ?_ ?_; rotate_left; (focus (intro w' hG; (have z0 := fx8 w' hG; have z1 := kh8 w' hG); go_simp; try (with_reducible rfl))); simp only [Act.put, List.setIfInBounds_toArray, List.set_cons_zero, List.set_cons_succ])
        | (refine wpS_skip rfl ?_; simp only [Act.put, List.setIfInBounds_toArray, List.set_cons_zero, List.set_cons_succ]))
      have h5 := dhead_any w8 p b bl bt s las lat hd (((H.out.1.grow gw).grow gd).grow g68)
      refine wpS_call (f := ?_) (args := ?_) (by rfl) ?_ ?_
      rotate_left 2; focus (go_simp; constructor <;> with_reducible rfl)
      refine (h5).mono ?_
      rintro e w9 ⟨v9, rfl, ho9, g9⟩
      refine ⟨v9, rfl, g9, ?_⟩
      simp only [Act.put, List.setIfInBounds_toArray, List.set_cons_zero, List.set_cons_succ]
      have k9 : ∀ w', Grow w9 w' → (convert 29 9 v9).run Try.prog w' = .ok (.string (strOfNums hd)) w' := fun w' g => (Rd.below ho9.rd g).string 29 9 5 Try.underlying29 Try.underlying5 Try.underlying9
      repeat (first
        | (refine wpS_move rfl ?_; simp only [Act.eval, Act.put, Array.getD_eq_getD_getElem?, List.getElem?_toArray, List.getElem?_cons_zero, List.getElem?_cons_succ, Option.getD_some, List.setIfInBounds_toArray, List.set_cons_zero, List.set_cons_succ])
        | (refine wpS_assign rfl ?_; simp only [Act.eval, Act.put, Array.getD_eq_getD_getElem?, List.getElem?_toArray, List.getElem?_cons_zero, List.getElem?_cons_succ, Option.getD_some, List.setIfInBounds_toArray, List.set_cons_zero, List.set_cons_succ])
        | (refine wpS_read (v := ?_) rfl ?_ ?_; rotate_left; (focus (intro w' hG; have z2 := k9 w' hG; go_simp; try (with_reducible rfl))); simp only [Act.put, List.setIfInBounds_toArray, List.set_cons_zero, List.set_cons_succ])
        | (refine wpS_skip rfl ?_; simp only [Act.put, List.setIfInBounds_toArray, List.set_cons_zero, List.set_cons_succ]))
      refine wpS_nil ?_
      go_wp2
      go_ret
      exact ⟨rfl, ((gw.trans gd).trans g68).trans g9⟩
end Go.Proofs.Ytpkoiogdkaklfaa
