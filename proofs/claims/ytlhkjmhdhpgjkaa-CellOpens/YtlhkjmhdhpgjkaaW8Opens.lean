/-
  The walk of the law CellOpens. Conditions: none but the reading of its arguments.
-/
import Derived.Test.YtlhkjmhdhpgjkaaW8Com
namespace Go.Proofs.Ytlhkjmhdhpgjkaa
open Go.RowKit
set_option linter.unusedVariables false
set_option linter.unusedSimpArgs false


/-- six slices in a row -/
def SixB (w : World) (g : Nat) : Prop := ∀ j, j < 6 → ∃ V L, w.cell? ⟨g, j, none⟩ = some V ∧ Rd .u8 w.heap.size w V L ∧ Oct L ∧ L.length ≤ 1000000

set_option maxHeartbeats 8000000 in
theorem cellOpens_walk (v : Value) (zs : List Int) (at' c0 : Int) (w : World) (h : Rd .u8 w.heap.size w v zs) (hoz : Oct zs) (hat : (Lit.int .i64 at').wf = true) (hc0 : 0 ≤ c0) (hc1 : c0 < 256) :
    Calls Try.prog 4 #[v, .int .i64 at', .int .u8 c0] w fun e w' => e = .returned (.bool true) ∧ Below w.heap.size w w' := by
  obtain ⟨i0, hi, hz0, hz1, hz2⟩ := info_parts Try.info5
  obtain ⟨os, hos⟩ := name_list (fillL zs 16)
  have hoo : Oct os := by rw [← hos]; exact oct_fill hoz 16
  have hl16 : os.length = 16 := by rw [← hos, fillL_length]
  have HLO : Hid (os.length ≤ 1000000) := by show os.length ≤ 1000000; omega
  have HO : Hid (fillL zs 16 = os) := hos
  obtain ⟨cs, hcs⟩ := name_list (os ++ le 4 (chk 0 os : Nat))
  have hop : Oct cs := by rw [← hcs]; exact hoo.append (oct_le _ _)
  have hl20 : cs.length = 20 := by rw [← hcs, List.length_append, le_length, hl16]
  have HC : Hid (os ++ le 4 (chk 0 os : Nat) = cs) := hcs
  have HC20 : Hid (cs.take 20 = cs) := List.take_of_length_le (by omega)
  have hl24 : cs.length ≤ 24 := by omega
  have hbd := around_bd at' 20 (by omega)
  obtain ⟨k, hk⟩ := Int.eq_ofNat_of_zero_le hbd.1
  rw [hk] at hbd
  have har := fun w => around_any at' 20 w hat (by omega) (by omega)
  rw [hk] at har
  have HR : Hid (∀ w, Calls Try.prog 16 #[.int .i64 at', .int .i64 20] w fun e w' => e = .returned (.int .i64 (k : Int)) ∧ w = w') := har
  clear har hk
  have hk : k < cs.length := by omega
  have hk1 : (k : Int) < (cs.length : Int) := by omega
  have hk0 : (0 : Int) ≤ (k : Int) := by omega
  clear hbd hl20 hl16 hcs hos
  go_enter Try.func4, Try.ntmps4
  go_wp2_with fail
  refine (fill_any _ zs _ 16 _ _ rfl h (by omega)).mono ?_
  rintro e w1 ⟨v1, rfl, ho1, hb1⟩
  rw [HO.out] at ho1
  have hpt := rput_any _ os _ w1 ho1.rd hoo HLO.out
  rw [HC.out] at hpt
  clear ho1
  go_wp2_with fail
  refine hpt.mono ?_
  rintro e w2 ⟨v2, rfl, ho2, hb2⟩
  have hb12 : Below w.heap.size w w2 := Grow.trans hb1 hb2
  have hr2 := ho2.rd
  obtain ⟨a2, c2, hv2⟩ := ho2.shape
  subst hv2
  obtain ⟨-, hkc, hcm2⟩ := hr2.caps
  clear ho2 hpt
  go_wp2_with fail
  refine (HR.out w2).mono ?_
  rintro e w3 ⟨rfl, rfl⟩
  go_wp2_with fail
  refine (fewB_any _ cs _ 20 _ _ rfl hr2 (by omega)).mono ?_
  rintro e w3 ⟨v3, rfl, ho3, hb3⟩
  rw [HC20.out] at ho3
  have hb13 := hb12.trans (hb3.mono hb12.size)
  obtain ⟨g, o, c, rfl, hg, hgc, hcm, hcell, hfr, hset⟩ := ho3.row hk
  have hown := hset c0
  have hr4 : Rd .u8 (w3.setCell ⟨g, o + k, none⟩ (.int .u8 c0)).heap.size (w3.setCell ⟨g, o + k, none⟩ (.int .u8 c0)) (.slice a2 cs.length c2) cs := ((hr2.below hb3).below ((Below.refl w2.heap.size w3).setCell hg _)).size
  have hb14 : Below w.heap.size w (w3.setCell ⟨g, o + k, none⟩ (.int .u8 c0)) := hb13.setCell (Nat.le_trans hb12.size hg) _
  have hoset : Oct (cs.set k c0) := hop.set k hc0 hc1
  have HLS : Hid ((cs.set k c0).length ≤ 1000000) := by show (cs.set k c0).length ≤ 1000000; rw [List.length_set]; omega
  clear hset hr2 ho3
  unfold maxLen at hcm
  go_wp2_with fail
  refine (fewB_any _ cs _ 20 _ _ rfl hr4 (by omega)).mono ?_
  rintro e w5 ⟨v5, rfl, ho5, hb5⟩
  rw [HC20.out] at ho5
  generalize (w3.setCell ⟨g, o + k, none⟩ (.int .u8 c0)) = w4 at ho5 hb5 hb14 hown hr4
  have hb15 := hb14.trans (hb5.mono hb14.size)
  have hr5 := hr4.below hb5
  have hro5 := hown.rd.below hb5
  clear hown hr4
  go_wp2_with (at_builtin; refine wpList_app rfl (.tmp 29) (.tmp 31) 22 22 rfl i0 (.int .u8 0) 1 Try.underlying22 hi hz0 hz1 hz2 rfl rfl rfl (ho5.alloc _) (Src.one (w := w5) Try.underlying22 .u8 c0 5) (by simp only [maxLen, List.length_singleton]; omega) (by simp only [List.length_singleton]; omega) (Nat.le_trans hb5.size (by simp)) ?_)
  intro v6 w6 ho6 hb6
  have hb56 : Below w4.heap.size w5 w6 := ((Below.refl w4.heap.size w5).alloc hb5.size _).trans hb6
  have hr6 := (hr5.below hb56).size
  have hrs6 := (hro5.below hb56).size
  have hrm6 := ho6.rd
  have hb16 := hb15.trans (hb56.mono hb14.size)
  have hkc2 : (k : Int) ≤ (c2 : Int) := by omega
  unfold maxLen at hcm2
  clear ho5 hb5 hr5 hro5 ho6 hb6 hb56 hb15 hb14 hb13 hb12 hcell hfr
  have hoss : Oct (cs ++ [c0]) := hop.append (fun x hx => by simp at hx; omega)
  have hlm : (cs ++ [c0]).length ≤ 1000000 := by rw [List.length_append, List.length_singleton]; omega
  generalize cs ++ [c0] = ms at hrm6 hoss hlm
  have hof := hoz.take 24
  have hlf : (zs.take 24).length ≤ 24 := by rw [List.length_take]; omega
  obtain ⟨fs, hfs⟩ := name_list (zs.take 24)
  rw [hfs] at hof hlf
  have HF : Hid (zs.take 24 = fs) := hfs
  clear hfs
  obtain ⟨ps, hps⟩ := name_list (fs ++ le 4 (chk 0 fs : Nat))
  have hops : Oct ps := by rw [← hps]; exact hof.append (oct_le _ _)
  have hlps : ps.length ≤ 1000000 := by rw [← hps, List.length_append, le_length]; omega
  have HPS : Hid (fs ++ le 4 (chk 0 fs : Nat) = ps) := hps
  clear hps
  obtain ⟨a6, c6, hv6, -⟩ := hrm6.size
  subst hv6
  go_wp2
  refine wp_region_sched (by kernel_rfl) [(0, false), (2, false), (3, false), (4, false), (5, false), (6, false), (7, false), (8, false), (1, true), (9, true), (10, true), (11, true), (12, false)] (by kernel_rfl) (by kernel_rfl) rfl (fun _ _ d _ _ h => by cases d <;> exact h) ?_
  simp only [inOrder, List.filterMap_cons, List.filterMap_nil, List.getElem?_toArray, List.getElem?_cons_zero, List.getElem?_cons_succ, Option.map_some]
  repeat (first
    | (refine wpS_move rfl ?_; simp only [Act.eval, Act.put, Array.getD_eq_getD_getElem?, List.getElem?_toArray, List.getElem?_cons_zero, List.getElem?_cons_succ, Option.getD_some, List.setIfInBounds_toArray, List.set_cons_zero, List.set_cons_succ])
    | (refine wpS_assign rfl ?_; simp only [Act.eval, Act.put, Array.getD_eq_getD_getElem?, List.getElem?_toArray, List.getElem?_cons_zero, List.getElem?_cons_succ, Option.getD_some, List.setIfInBounds_toArray, List.set_cons_zero, List.set_cons_succ])
    | (refine wpS_read (v := ?_) rfl ?_ ?_; rotate_left; (focus (intro w' hG; skip; go_simp; try (with_reducible rfl))); simp only [Act.put, List.setIfInBounds_toArray, List.set_cons_zero, List.set_cons_succ])
    | (refine wpS_skip rfl ?_; simp only [Act.put, List.setIfInBounds_toArray, List.set_cons_zero, List.set_cons_succ]))
  refine wpS_call (f := ?_) (args := ?_) (by rfl) ?_ ?_
  rotate_left 2; focus (go_simp; constructor <;> with_reducible rfl)
  refine (fewB_any _ zs _ 24 _ _ rfl (h.below hb16.drew) (by omega)).mono ?_
  rintro e w7 ⟨v7, rfl, ho7, hb7⟩
  rw [HF.out] at ho7
  refine ⟨v7, rfl, hb7, ?_⟩
  obtain ⟨a7, c7, hv7⟩ := ho7.shape
  subst hv7
  simp only [Act.put, List.setIfInBounds_toArray, List.set_cons_zero, List.set_cons_succ]
  repeat (first
    | (refine wpS_move rfl ?_; simp only [Act.eval, Act.put, Array.getD_eq_getD_getElem?, List.getElem?_toArray, List.getElem?_cons_zero, List.getElem?_cons_succ, Option.getD_some, List.setIfInBounds_toArray, List.set_cons_zero, List.set_cons_succ])
    | (refine wpS_assign rfl ?_; simp only [Act.eval, Act.put, Array.getD_eq_getD_getElem?, List.getElem?_toArray, List.getElem?_cons_zero, List.getElem?_cons_succ, Option.getD_some, List.setIfInBounds_toArray, List.set_cons_zero, List.set_cons_succ])
    | (refine wpS_read (v := ?_) rfl ?_ ?_; rotate_left; (focus (intro w' hG; skip; go_simp; try (with_reducible rfl))); simp only [Act.put, List.setIfInBounds_toArray, List.set_cons_zero, List.set_cons_succ])
    | (refine wpS_skip rfl ?_; simp only [Act.put, List.setIfInBounds_toArray, List.set_cons_zero, List.set_cons_succ]))
  refine wpS_call (f := ?_) (args := ?_) (by rfl) ?_ ?_
  rotate_left 2; focus (go_simp; constructor <;> with_reducible rfl)
  refine (fewB_any _ zs _ 24 _ _ rfl (h.below (hb16.drew.trans (hb7.mono hb16.drew.size))) (by omega)).mono ?_
  rintro e w8 ⟨v8, rfl, ho8, hb8⟩
  rw [HF.out] at ho8
  refine ⟨v8, rfl, hb8, ?_⟩
  simp only [Act.put, List.setIfInBounds_toArray, List.set_cons_zero, List.set_cons_succ]
  repeat (first
    | (refine wpS_move rfl ?_; simp only [Act.eval, Act.put, Array.getD_eq_getD_getElem?, List.getElem?_toArray, List.getElem?_cons_zero, List.getElem?_cons_succ, Option.getD_some, List.setIfInBounds_toArray, List.set_cons_zero, List.set_cons_succ])
    | (refine wpS_assign rfl ?_; simp only [Act.eval, Act.put, Array.getD_eq_getD_getElem?, List.getElem?_toArray, List.getElem?_cons_zero, List.getElem?_cons_succ, Option.getD_some, List.setIfInBounds_toArray, List.set_cons_zero, List.set_cons_succ])
    | (refine wpS_read (v := ?_) rfl ?_ ?_; rotate_left; (focus (intro w' hG; skip; go_simp; try (with_reducible rfl))); simp only [Act.put, List.setIfInBounds_toArray, List.set_cons_zero, List.set_cons_succ])
    | (refine wpS_skip rfl ?_; simp only [Act.put, List.setIfInBounds_toArray, List.set_cons_zero, List.set_cons_succ]))
  have hpt := rput_any _ fs _ w8 ho8.rd hof (by omega)
  rw [HPS.out] at hpt
  refine wpS_call (f := ?_) (args := ?_) (by rfl) ?_ ?_
  rotate_left 2; focus (go_simp; constructor <;> with_reducible rfl)
  refine (hpt).mono ?_
  rintro e w9 ⟨v9, rfl, ho9, hb9⟩
  refine ⟨v9, rfl, hb9, ?_⟩
  obtain ⟨a9, c9, hv9⟩ := ho9.shape
  subst hv9
  simp only [Act.put, List.setIfInBounds_toArray, List.set_cons_zero, List.set_cons_succ]
  repeat (first
    | (refine wpS_move rfl ?_; simp only [Act.eval, Act.put, Array.getD_eq_getD_getElem?, List.getElem?_toArray, List.getElem?_cons_zero, List.getElem?_cons_succ, Option.getD_some, List.setIfInBounds_toArray, List.set_cons_zero, List.set_cons_succ])
    | (refine wpS_assign rfl ?_; simp only [Act.eval, Act.put, Array.getD_eq_getD_getElem?, List.getElem?_toArray, List.getElem?_cons_zero, List.getElem?_cons_succ, Option.getD_some, List.setIfInBounds_toArray, List.set_cons_zero, List.set_cons_succ])
    | (refine wpS_read (v := ?_) rfl ?_ ?_; rotate_left; (focus (intro w' hG; skip; go_simp; try (with_reducible rfl))); simp only [Act.put, List.setIfInBounds_toArray, List.set_cons_zero, List.set_cons_succ])
    | (refine wpS_skip rfl ?_; simp only [Act.put, List.setIfInBounds_toArray, List.set_cons_zero, List.set_cons_succ]))
  refine wpS_act (v := ?_) (w' := ?_) (by rfl) ?_ ?_ ?_
  rotate_left 2; focus (go_simp; constructor <;> with_reducible rfl)
  · exact (Grow.refl _).alloc _
  simp only [Act.put, List.setIfInBounds_toArray, List.set_cons_zero, List.set_cons_succ]
  repeat (first
    | (refine wpS_move rfl ?_; simp only [Act.eval, Act.put, Array.getD_eq_getD_getElem?, List.getElem?_toArray, List.getElem?_cons_zero, List.getElem?_cons_succ, Option.getD_some, List.setIfInBounds_toArray, List.set_cons_zero, List.set_cons_succ])
    | (refine wpS_assign rfl ?_; simp only [Act.eval, Act.put, Array.getD_eq_getD_getElem?, List.getElem?_toArray, List.getElem?_cons_zero, List.getElem?_cons_succ, Option.getD_some, List.setIfInBounds_toArray, List.set_cons_zero, List.set_cons_succ])
    | (refine wpS_read (v := ?_) rfl ?_ ?_; rotate_left; (focus (intro w' hG; skip; go_simp; try (with_reducible rfl))); simp only [Act.put, List.setIfInBounds_toArray, List.set_cons_zero, List.set_cons_succ])
    | (refine wpS_skip rfl ?_; simp only [Act.put, List.setIfInBounds_toArray, List.set_cons_zero, List.set_cons_succ]))
  refine wpS_nil ?_
  have g7a : Grow w7 (w9.alloc (.cells #[.slice a7 fs.length c7, .slice a2 cs.length c2, .slice (some ⟨g, o, none⟩) cs.length c, .slice a2 k c2, .slice a6 ms.length c6, .slice a9 ps.length c9] 22)) := (Grow.trans hb8 hb9).alloc _
  have hgr : Grow w6 (w9.alloc (.cells #[.slice a7 fs.length c7, .slice a2 cs.length c2, .slice (some ⟨g, o, none⟩) cs.length c, .slice a2 k c2, .slice a6 ms.length c6, .slice a9 ps.length c9] 22)) := (Grow.trans (Grow.refl w6).drew hb7).trans g7a
  have hsix : SixB (w9.alloc (.cells #[.slice a7 fs.length c7, .slice a2 cs.length c2, .slice (some ⟨g, o, none⟩) cs.length c, .slice a2 k c2, .slice a6 ms.length c6, .slice a9 ps.length c9] 22)) w9.heap.size := fun j hj => by
    rw [World.cell?_alloc_new]
    have : j = 0 ∨ j = 1 ∨ j = 2 ∨ j = 3 ∨ j = 4 ∨ j = 5 := by omega
    rcases this with rfl | rfl | rfl | rfl | rfl | rfl
    · exact ⟨_, fs, rfl, (ho7.rd.below g7a).size, hof, by omega⟩
    · exact ⟨_, cs, rfl, (hr6.below hgr).size, hop, by omega⟩
    · exact ⟨_, cs.set k c0, rfl, (hrs6.below hgr).size, hoset, HLS.out⟩
    · exact ⟨_, cs.take k, rfl, ((hr6.below hgr).size.take k (by omega)), hop.take k, by rw [List.length_take]; omega⟩
    · exact ⟨_, ms, rfl, (hrm6.below hgr).size, hoss, hlm⟩
    · exact ⟨_, ps, rfl, (ho9.alloc _).rd, hops, hlps⟩
  have HFI : Hid (SixB (w9.alloc (.cells #[.slice a7 fs.length c7, .slice a2 cs.length c2, .slice (some ⟨g, o, none⟩) cs.length c, .slice a2 k c2, .slice a6 ms.length c6, .slice a9 ps.length c9] 22)) w9.heap.size ∧ w9.heap.size < (w9.alloc (.cells #[.slice a7 fs.length c7, .slice a2 cs.length c2, .slice (some ⟨g, o, none⟩) cs.length c, .slice a2 k c2, .slice a6 ms.length c6, .slice a9 ps.length c9] 22)).heap.size ∧ Grow w (w9.alloc (.cells #[.slice a7 fs.length c7, .slice a2 cs.length c2, .slice (some ⟨g, o, none⟩) cs.length c, .slice a2 k c2, .slice a6 ms.length c6, .slice a9 ps.length c9] 22))) := ⟨hsix, by simp, hb16.trans (hgr.below hb16.size)⟩
  generalize (w9.alloc (.cells #[.slice a7 fs.length c7, .slice a2 cs.length c2, .slice (some ⟨g, o, none⟩) cs.length c, .slice a2 k c2, .slice a6 ms.length c6, .slice a9 ps.length c9] 22)) = w10 at HFI ⊢
  generalize w9.heap.size = bq at HFI ⊢
  clear hsix hr6 hrs6 hrm6 ho7 hb7 hgr g7a ho8 hb8 ho9 hb9 hpt hk hk0 hk1 hkc hkc2 hcm hcm2 hgc hg hb1 hb2 hb3 hlm hlf hl24 hlps
  go_wp2
  go_loopg [12] 6 (fun k i wr => ∃ j : Nat, k = 6 - j ∧ j ≤ 6 ∧ i = .int .i64 (j : Int) ∧ Grow w10 wr)
  case atStart => exact ⟨0, rfl, Nat.zero_le _, rfl, Grow.refl _⟩
  case round =>
    obtain ⟨j, hkk, hj, rfl, hbr⟩ := hrel
    by_cases hlt : j < 6
    · have hlt' : (j : Int) < 6 := by omega
      have hj0 : (0 : Int) ≤ (j : Int) := by omega
      obtain ⟨V, L, hcel, hrL, hoL, hlL⟩ := HFI.out.1 j hlt
      have hop1 := open_any _ L _ wr (hrL.below hbr) hoL hlL
      have hop2 := fun u (g : Grow w10 u) => ropen_any _ L _ u (hrL.below g) hoL hlL
      have hcl : ∀ u, Grow w10 u → u.cell? ⟨bq, j, none⟩ = some V := fun u g => by rw [Below.cell (p := ⟨bq, j, none⟩) g HFI.out.2.1]; exact hcel
      obtain ⟨aL, cL, hVL, -⟩ := hrL
      subst hVL
      generalize opened L = T at hop1 hop2
      obtain ⟨TL, TE⟩ := T
      generalize L.length = lL at hop1 hop2 hcl
      have HK : Hid (gk = 6 - j ∧ j < 6 ∧ Grow w10 wr) := ⟨hkk, hlt, hbr⟩
      have q0 := hcl wr hbr
      clear hcel hoL hlL hkk hlt hj hbr
      go_wp2_with fail
      refine hop1.mono ?_
      rintro e wa ⟨va, rfl, hoa, hba⟩
      have ga : Grow w10 wa := HK.out.2.2.trans hba
      have q1 := hcl wa ga
      clear q0
      go_wp2_with fail
      refine (hop2 wa ga).mono ?_
      rintro e wb ⟨vb, rfl, hob, hbb⟩
      have s1 := (hoa.rd.below hbb).string (P := Try.prog) 22 9 5 Try.underlying22 Try.underlying5 Try.underlying9
      have s2 := hob.string (P := Try.prog) 22 9 5 Try.underlying22 Try.underlying5 Try.underlying9
      have HGB : Hid (Grow w10 wb) := ga.trans hbb
      clear hoa hob hba hbb ga q1 hcl hop1 hop2
      go_wp2
      go_roundg (6 - (j + 1))
      case measure => have := HK.out; omega
      case rel => exact ⟨j + 1, rfl, by have := HK.out; omega, by go_num, HGB.out⟩
    · have hge : ¬ (j : Int) < 6 := by omega
      have HE : Hid (Grow w wr) := HFI.out.2.2.trans hbr
      clear hlt hkk hj hbr HFI
      go_wp2_with fail
      refine (lives8_any wr).mono ?_
      rintro e wa ⟨rfl, fa⟩
      go_wp2
      go_ret
      exact ⟨rfl, HE.out.trans fa⟩
end Go.Proofs.Ytlhkjmhdhpgjkaa
