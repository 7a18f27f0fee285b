/-
  The document's side: the walks of New, Find, Check, free, All, Same, Pick. Conditions: each theorem's own.
-/
import Derived.Test.YtoobohbghobfhaaCapW
import Derived.Test.YtoobohbghobfhaaRigH
import Derived.Deep.CutRange
namespace Go.Proofs.Ytoobohbghobfhaa
open Go.RowKit
set_option linter.unusedVariables false
set_option linter.unusedSimpArgs false

/-- the document's list of those that are good -/
def RdL (p : Nat → Prop) (w : World) (v : Value) (L : List Sl) : Prop := RdS Sl.cs 3 p w v L
theorem RdL.grow {p : Nat → Prop} {w w' : World} {v : Value} {L : List Sl} (h : RdL p w v L) (g : Grow w w') : RdL p w' v L := RdS.grow h g
theorem rdL_at {p : Nat → Prop} {w : World} {a : Option Addr} {n c : Nat} {L : List Sl} (h : RdL p w (.slice a n c) L) {i : Nat} (hi : i < L.length) : ∃ b o, a = some ⟨b, o, none⟩ ∧ p b ∧ ∀ w', Grow w w' → w'.cell? ⟨b, o + i * 3, none⟩ = some (.int .i64 (L.getD i Sl.zero).s) ∧ w'.cell? ⟨b, o + i * 3 + 1, none⟩ = some (.int .i64 (L.getD i Sl.zero).g) ∧ w'.cell? ⟨b, o + i * 3 + 2, none⟩ = some (.int .i64 (L.getD i Sl.zero).r) := by
  obtain ⟨b, o, e, hp, hb, hc⟩ := RdS.at h slk Sl.zero hi
  refine ⟨b, o, e, hp, fun w' g => ?_⟩
  have hh : ∀ j, j < 3 → w'.cell? ⟨b, o + i * 3 + j, none⟩ = (Sl.cs (L.getD i Sl.zero))[j]? := fun j hj => by rw [Below.cell (p := ⟨b, o + i * 3 + j, none⟩) g hb]; exact hc j hj
  exact ⟨hh 0 (by omega), hh 1 (by omega), hh 2 (by omega)⟩
theorem rdL_new (w : World) (x y z : Int) (r : Nat) (hz : z = (r : Int)) : RdL (fun i => i = w.heap.size) (w.alloc (.cells #[.int .i64 x, .int .i64 y, .int .i64 z] 49)) (.slice (some ⟨w.heap.size, 0, none⟩) 1 1) [⟨x, y, r⟩] := by
  subst hz
  exact rdS_new (f := Sl.cs) (k := 3) w 49 [⟨x, y, r⟩] slk (by simp [maxLen])
theorem load_T (b : Nat) (k n : Int) (v : Value) (w : World) (h : VarAt w b [.int .i64 k, .int .i64 n, v]) (hv : v.oneCell' = true) : (loadVar 30 ⟨b, 0, none⟩).run Try.prog w = .ok (.agg #[.int .i64 k, .int .i64 n, v]) w := by
  obtain ⟨⟨h0, h1, h2⟩, -⟩ := h.three
  cases v <;> simp [Value.oneCell'] at hv <;> go_simp
theorem VarAt.set3' {w : World} {b : Nat} {x0 x1 x2 : Value} (h : VarAt w b [x0, x1, x2]) (x y z : Value) : VarAt (((w.setCell ⟨b, 0, none⟩ x).setCell ⟨b, 1, none⟩ y).setCell ⟨b, 2, none⟩ z) b [x, y, z] :=
  ((h.set 0 x).set 1 y).set 2 z
theorem upd_three' (w : World) (b : Nat) (x y z : Value) : UpdS (fun k => k = b) w (((w.setCell ⟨b, 0, none⟩ x).setCell ⟨b, 1, none⟩ y).setCell ⟨b, 2, none⟩ z) :=
  ((upd_one w b 0 x).trans (upd_one _ b 1 y)).trans (upd_one _ b 2 z)

set_option maxHeartbeats 4000000 in
theorem rnew_any (k : Int) (w : World) (h1 : 1 ≤ k) (h2 : k ≤ 1073741824) : Calls Try.prog 11 #[.int .i64 k] w fun e w' => ∃ v, e = .returned (.agg #[.int .i64 k, .int .i64 1, v]) ∧ RdL (fun i => w.heap.size ≤ i) w' v [⟨0, k * 1048576, 15⟩] ∧ Grow w w' := by
  have hw : IntKind.i64.wrap (k * 1048576) = k * 1048576 := by rw [IntKind.wrap_i64]; omega
  obtain ⟨W0, hW0⟩ : ∃ W0, W0 = w.alloc (.cells #[.int .i64 0, .int .i64 0, .slice none 0 0] 30) := ⟨_, rfl⟩
  have HV : Hid (VarAt W0 w.heap.size [.int .i64 0, .int .i64 0, .slice none 0 0] ∧ Grow w W0) := by rw [hW0]; exact ⟨VarAt.new w [.int .i64 0, .int .i64 0, .slice none 0 0] _, (Grow.refl w).alloc _⟩
  obtain ⟨b, hb⟩ : ∃ b, b = w.heap.size := ⟨_, rfl⟩
  have HB : Hid (b = w.heap.size) := hb
  rw [← hb] at HV
  have hlt : b < W0.heap.size := HV.out.1.lt
  obtain ⟨⟨m0, m1, m2⟩, f0, f1, f2⟩ := HV.out.1.three
  clear h1 h2
  go_enter Try.func11, Try.ntmps11
  go_upto_region 1 with fail
  rw [← hW0, ← hb]
  clear hW0 hb
  go_wp2
  obtain ⟨W1, hW1⟩ : ∃ W1, W1 = ((W0.setCell ⟨b, 0, none⟩ (.int .i64 k)).setCell ⟨b, 1, none⟩ (.int .i64 1)).setCell ⟨b, 2, none⟩ (.slice (some ⟨W0.heap.size, 0, none⟩) 1 1) := ⟨_, rfl⟩
  have hU : UpdS (fun i => i = b) W0 W1 := by rw [hW1]; exact upd_three' W0 b (.int .i64 k) (.int .i64 1) (.slice (some ⟨W0.heap.size, 0, none⟩) 1 1)
  have hV1 : VarAt W1 b [.int .i64 k, .int .i64 1, .slice (some ⟨W0.heap.size, 0, none⟩) 1 1] := by rw [hW1]; exact HV.out.1.set3' _ _ _
  have hs1 : W1.heap.size = W0.heap.size := by rw [hW1]; simp
  have hL1 := rdL_new W1 0 (k * 1048576) 15 15 rfl
  rw [hs1] at hL1
  rw [← hW1]
  exact bodyPost_ret_by (results_cell rfl _ _ _ _ rfl (load_T b _ _ _ _ (hV1.old _) rfl)) rfl ⟨_, rfl, RdS.mono hL1 (fun i _ e => by have := HV.out.2.size; omega), (UpdS.new HV.out.2 hU (fun i hi => by have := HB.out; omega)).alloc _⟩

/-- a document's table and a capability in their boxes -/
def FiAt (w wr : World) (b1 b2 : Nat) (k n : Int) (v : Value) (c : Cp) : Prop := VarAt wr b1 [.int .i64 k, .int .i64 n, v] ∧ VarAt wr b2 [.int .i64 c.s, .int .i64 c.g] ∧ Grow w wr
theorem FiAt.grow {w wr w2 : World} {b1 b2 : Nat} {k n : Int} {v : Value} {c : Cp} (h : FiAt w wr b1 b2 k n v c) (g : Grow wr w2) : FiAt w w2 b1 b2 k n v c := ⟨h.1.grow g, h.2.1.grow g, h.2.2.trans g⟩
theorem FiAt.start (w : World) (k n : Int) (v : Value) (c : Cp) : FiAt w ((w.alloc (.cells #[.int .i64 k, .int .i64 n, v] 30)).alloc (.cells #[.int .i64 c.s, .int .i64 c.g] 33)) w.heap.size (w.heap.size + 1) k n v c :=
  ⟨(VarAt.new w [.int .i64 k, .int .i64 n, v] _).old _, VarAt.new2 w _ [.int .i64 c.s, .int .i64 c.g] _, ((Grow.refl w).alloc _).alloc _⟩

set_option maxHeartbeats 4000000 in
theorem rfind_any {p : Nat → Prop} (k n : Int) (v : Value) (L : List Sl) (c : Cp) (w : World) (h : RdL p w v L) : Calls Try.prog 17 #[.agg #[.int .i64 k, .int .i64 n, v], .agg #[.int .i64 c.s, .int .i64 c.g]] w fun e w' => e = .returned (.int .i64 (findL L c)) ∧ Grow w w' := by
  have hll := RdS.len h
  unfold maxLen at hll
  have HR := hid h
  obtain ⟨a, cc, rfl⟩ := RdS.shape h
  obtain ⟨W0, hW0⟩ : ∃ W0, W0 = (w.alloc (.cells #[.int .i64 k, .int .i64 n, .slice a L.length cc] 30)).alloc (.cells #[.int .i64 c.s, .int .i64 c.g] 33) := ⟨_, rfl⟩
  have HX := hid (FiAt.start w k n (.slice a L.length cc) c)
  rw [← hW0] at HX
  obtain ⟨b2, hb2⟩ : ∃ b2, b2 = w.heap.size + 1 := ⟨_, rfl⟩
  obtain ⟨b1, hb1⟩ : ∃ b1, b1 = w.heap.size := ⟨_, rfl⟩
  rw [← hb2, ← hb1] at HX
  clear h
  go_enter Try.func17, Try.ntmps17
  go_upto_region 1 with fail
  rw [← hW0, ← hb2, ← hb1]
  clear hW0 hb2 hb1
  go_wp2
  go_loopg [5] L.length (fun m iv wr => ∃ j : Nat, m = L.length - j ∧ j ≤ L.length ∧ iv = .int .i64 j ∧ Hid ((∀ i, i < j → (L.getD i Sl.zero).cp.is c = false) ∧ FiAt w wr b1 b2 k n (.slice a L.length cc) c))
  case atStart => exact ⟨0, rfl, Nat.zero_le _, rfl, fun i hi => absurd hi (Nat.not_lt_zero _), HX.out⟩
  case round =>
    clear HX
    obtain ⟨j, hk, hj, rfl, HX⟩ := hrel
    obtain ⟨⟨m0, m1, m2⟩, -⟩ := HX.out.2.1.three
    by_cases hlt : j < L.length
    · have hlt' : (j : Int) < (L.length : Int) := by omega
      have HJ : Hid (j < L.length ∧ gk = L.length - j) := ⟨hlt, hk⟩
      have hw1 : IntKind.i64.wrap ((j : Int) + 1) = ((j + 1 : Nat) : Int) := by rw [IntKind.wrap_i64]; omega
      obtain ⟨bb, oo, e1, -, hc⟩ := rdL_at HR.out hlt
      subst e1
      have HE : Hid (∀ x, L.getD j Sl.zero = x → (x.cp.is c = true → findL L c = j) ∧ (x.cp.is c = false → ∀ i, i < j + 1 → (L.getD i Sl.zero).cp.is c = false)) := fun x e => by
        subst e
        refine ⟨fun he => ?_, fun he i hi => ?_⟩
        · have := fidx_is hlt he HX.out.1
          unfold findL
          rw [this, if_pos hlt]
        · by_cases hij : i = j
          · subst hij; exact he
          · exact HX.out.1 i (by omega)
      generalize hy : L.getD j Sl.zero = x at hc
      have HE := hid (HE.out x hy)
      obtain ⟨xs, xg, xr⟩ := x
      obtain ⟨cs, cg⟩ := c
      have HF := hid (HX.out.2.grow (Grow.refl _).drew)
      have fz : ∀ w', Grow wr.drew w' → (w'.cell? ⟨b1, 0, none⟩ = some (.int .i64 k) ∧ w'.cell? ⟨b1, 1, none⟩ = some (.int .i64 n) ∧ w'.cell? ⟨b1, 2, none⟩ = some (.slice (some ⟨bb, oo, none⟩) L.length cc)) ∧ (w'.cell? ⟨b2, 0, none⟩ = some (.int .i64 cs) ∧ w'.cell? ⟨b2, 1, none⟩ = some (.int .i64 cg)) ∧ (w'.cell? ⟨bb, oo + j * 3, none⟩ = some (.int .i64 xs) ∧ w'.cell? ⟨bb, oo + j * 3 + 1, none⟩ = some (.int .i64 xg)) := fun w' hg =>
        ⟨(HF.out.1.grow hg).three.1, (HF.out.2.1.grow hg).two.1, (hc w' (HF.out.2.2.trans hg)).1, (hc w' (HF.out.2.2.trans hg)).2.1⟩
      clear hy hc hk hj hlt
      by_cases x1 : xs = cs
      · have q1 := eqs x1
        by_cases x2 : xg = cg
        · have q2 := eqs x2
          have HT := hid (HE.out.1 (by simp [Sl.cp, Cp.is, x1, x2]))
          clear x1 x2 HE
          go_wp2
          refine wp_region_sched (by kernel_rfl) [(0, false), (1, false), (2, false), (3, false), (4, false), (5, false), (6, false), (7, false)] (by kernel_rfl) (by kernel_rfl) rfl (fun _ _ d _ _ h => by cases d <;> exact h) ?_
          simp only [inOrder, List.filterMap_cons, List.filterMap_nil, List.getElem?_toArray, List.getElem?_cons_zero, List.getElem?_cons_succ, Option.map_some]
          repeat (first
            | (refine wpS_move rfl ?_; simp only [Act.eval, Act.put, Array.getD_eq_getD_getElem?, List.getElem?_toArray, List.getElem?_cons_zero, List.getElem?_cons_succ, Option.getD_some, List.setIfInBounds_toArray, List.set_cons_zero, List.set_cons_succ])
            | (refine wpS_assign rfl ?_; simp only [Act.eval, Act.put, Array.getD_eq_getD_getElem?, List.getElem?_toArray, List.getElem?_cons_zero, List.getElem?_cons_succ, Option.getD_some, List.setIfInBounds_toArray, List.set_cons_zero, List.set_cons_succ])
            | (refine wpS_read (v := ?_) rfl ?_ ?_; rotate_left; (focus (intro w' hG; obtain ⟨⟨y0, y1, y2⟩, ⟨y3, y4⟩, y5, y6⟩ := fz w' hG; go_simp; try (with_reducible rfl))); simp only [Act.put, List.setIfInBounds_toArray, List.set_cons_zero, List.set_cons_succ])
            | (refine wpS_skip rfl ?_; simp only [Act.put, List.setIfInBounds_toArray, List.set_cons_zero, List.set_cons_succ]))
          refine wpS_nil ?_
          clear fz m0 m1 m2
          go_wp2
          go_ret
          exact ⟨ret_int HT.out.symm, HF.out.2.2⟩
        · have q2 := neqs x2
          have HT := hid (HE.out.2 (by simp [Sl.cp, Cp.is, x2]))
          clear x1 x2 HE
          go_wp2
          refine wp_region_sched (by kernel_rfl) [(0, false), (1, false), (2, false), (3, false), (4, false), (5, false), (6, false), (7, false)] (by kernel_rfl) (by kernel_rfl) rfl (fun _ _ d _ _ h => by cases d <;> exact h) ?_
          simp only [inOrder, List.filterMap_cons, List.filterMap_nil, List.getElem?_toArray, List.getElem?_cons_zero, List.getElem?_cons_succ, Option.map_some]
          repeat (first
            | (refine wpS_move rfl ?_; simp only [Act.eval, Act.put, Array.getD_eq_getD_getElem?, List.getElem?_toArray, List.getElem?_cons_zero, List.getElem?_cons_succ, Option.getD_some, List.setIfInBounds_toArray, List.set_cons_zero, List.set_cons_succ])
            | (refine wpS_assign rfl ?_; simp only [Act.eval, Act.put, Array.getD_eq_getD_getElem?, List.getElem?_toArray, List.getElem?_cons_zero, List.getElem?_cons_succ, Option.getD_some, List.setIfInBounds_toArray, List.set_cons_zero, List.set_cons_succ])
            | (refine wpS_read (v := ?_) rfl ?_ ?_; rotate_left; (focus (intro w' hG; obtain ⟨⟨y0, y1, y2⟩, ⟨y3, y4⟩, y5, y6⟩ := fz w' hG; go_simp; try (with_reducible rfl))); simp only [Act.put, List.setIfInBounds_toArray, List.set_cons_zero, List.set_cons_succ])
            | (refine wpS_skip rfl ?_; simp only [Act.put, List.setIfInBounds_toArray, List.set_cons_zero, List.set_cons_succ]))
          refine wpS_nil ?_
          clear fz m0 m1 m2
          go_wp2
          go_roundg (L.length - (j + 1))
          case measure => have := HJ.out; omega
          case rel => exact ⟨j + 1, rfl, HJ.out.1, by first | rfl | go_num, HT.out, HF.out⟩
      · have q1 := neqs x1
        have x2 : True := trivial
        have HT := hid (HE.out.2 (by simp [Sl.cp, Cp.is, x1]))
        clear x1 x2 HE
        go_wp2
        refine wp_region_sched (by kernel_rfl) [(0, false), (1, false), (2, false), (3, false), (4, false), (5, false), (6, false), (7, false)] (by kernel_rfl) (by kernel_rfl) rfl (fun _ _ d _ _ h => by cases d <;> exact h) ?_
        simp only [inOrder, List.filterMap_cons, List.filterMap_nil, List.getElem?_toArray, List.getElem?_cons_zero, List.getElem?_cons_succ, Option.map_some]
        repeat (first
          | (refine wpS_move rfl ?_; simp only [Act.eval, Act.put, Array.getD_eq_getD_getElem?, List.getElem?_toArray, List.getElem?_cons_zero, List.getElem?_cons_succ, Option.getD_some, List.setIfInBounds_toArray, List.set_cons_zero, List.set_cons_succ])
          | (refine wpS_assign rfl ?_; simp only [Act.eval, Act.put, Array.getD_eq_getD_getElem?, List.getElem?_toArray, List.getElem?_cons_zero, List.getElem?_cons_succ, Option.getD_some, List.setIfInBounds_toArray, List.set_cons_zero, List.set_cons_succ])
          | (refine wpS_read (v := ?_) rfl ?_ ?_; rotate_left; (focus (intro w' hG; obtain ⟨⟨y0, y1, y2⟩, ⟨y3, y4⟩, y5, y6⟩ := fz w' hG; go_simp; try (with_reducible rfl))); simp only [Act.put, List.setIfInBounds_toArray, List.set_cons_zero, List.set_cons_succ])
          | (refine wpS_skip rfl ?_; simp only [Act.put, List.setIfInBounds_toArray, List.set_cons_zero, List.set_cons_succ]))
        refine wpS_nil ?_
        clear fz m0 m1 m2
        go_wp2
        go_roundg (L.length - (j + 1))
        case measure => have := HJ.out; omega
        case rel => exact ⟨j + 1, rfl, HJ.out.1, by first | rfl | go_num, HT.out, HF.out⟩
    · have hlt' : ¬ (j : Int) < (L.length : Int) := by omega
      have HT : Hid (findL L c = -1) := by
        show findL L c = -1
        unfold findL
        rw [fidx_none (fun i hi => HX.out.1 i (by omega)), if_neg (by omega)]
      have HG := hid (HX.out.2.2.2)
      clear hk hj hlt
      go_wp2
      go_ret
      exact ⟨ret_int HT.out.symm, HG.out⟩

set_option maxHeartbeats 4000000 in
theorem rcheck_any {p : Nat → Prop} (k n : Int) (v : Value) (L : List Sl) (c : Cp) (need : Nat) (w : World) (h : RdL p w v L) (hr : ∀ x ∈ L, x.r < 16) (hn : need < 16) : Calls Try.prog 19 #[.agg #[.int .i64 k, .int .i64 n, v], .agg #[.int .i64 c.s, .int .i64 c.g], .int .i64 need] w fun e w' => e = .returned (.int .i64 (chkL L c need)) ∧ Grow w w' := by
  have HR := hid h
  have hll := RdS.len h
  unfold maxLen at hll
  obtain ⟨a, cc, rfl⟩ := RdS.shape h
  obtain ⟨W0, hW0⟩ : ∃ W0, W0 = (w.alloc (.cells #[.int .i64 k, .int .i64 n, .slice a L.length cc] 30)).alloc (.cells #[.int .i64 c.s, .int .i64 c.g] 33) := ⟨_, rfl⟩
  have HX := hid (FiAt.start w k n (.slice a L.length cc) c)
  rw [← hW0] at HX
  have kf := rfind_any k n (.slice a L.length cc) L c W0 (HR.out.grow HX.out.2.2)
  obtain ⟨b2, hb2⟩ : ∃ b2, b2 = w.heap.size + 1 := ⟨_, rfl⟩
  obtain ⟨b1, hb1⟩ : ∃ b1, b1 = w.heap.size := ⟨_, rfl⟩
  rw [← hb2, ← hb1] at HX
  clear h
  by_cases hf : fidx c L < L.length
  · have ef : findL L c = (fidx c L : Int) := by unfold findL; rw [if_pos hf]
    have ec : chkL L c need = if hasB (L.getD (fidx c L) Sl.zero).r need then 0 else 11 := by unfold chkL; rw [if_pos hf]
    have hx16 : (L.getD (fidx c L) Sl.zero).r < 16 := hr _ (at_mem hf)
    rw [ef] at kf
    rw [ec]
    obtain ⟨bb, oo, e1, -, hc⟩ := rdL_at HR.out hf
    subst e1
    generalize fidx c L = i at kf hf hx16 hc
    have hi0 : ¬ (i : Int) < 0 := by omega
    have hi1 : (i : Int) < (L.length : Int) := by omega
    generalize L.getD i Sl.zero = x at hx16 hc
    obtain ⟨xs, xg, xr⟩ := x
    have hh := fun u => rhas_any xr need u hx16 hn
    simp only at hc
    have HC := hid hc
    clear ef ec hx16 hf hc hn hr
    generalize hasB xr need = bl at hh
    cases bl
    · go_enter Try.func19, Try.ntmps19
      go_upto_region 1 with fail
      rw [← hW0, ← hb2, ← hb1]
      clear hW0 hb2 hb1
      obtain ⟨⟨m0, m1, m2⟩, -⟩ := HX.out.1.three
      obtain ⟨⟨n0, n1⟩, -⟩ := HX.out.2.1.two
      go_wp2_with fail
      refine kf.mono ?_
      rintro e w2 ⟨rfl, g2⟩
      clear kf m0 m1 m2 n0 n1
      have HY := hid (HX.out.grow g2)
      obtain ⟨⟨m0, m1, m2⟩, -⟩ := HY.out.1.three
      obtain ⟨-, -, c2⟩ := HC.out w2 HY.out.2.2
      clear g2 HX
      go_wp2_with fail
      refine (hh w2).mono ?_
      rintro e w3 ⟨rfl, g3⟩
      clear hh
      go_wp2
      go_ret
      exact ⟨rfl, HY.out.2.2.trans g3⟩
    · go_enter Try.func19, Try.ntmps19
      go_upto_region 1 with fail
      rw [← hW0, ← hb2, ← hb1]
      clear hW0 hb2 hb1
      obtain ⟨⟨m0, m1, m2⟩, -⟩ := HX.out.1.three
      obtain ⟨⟨n0, n1⟩, -⟩ := HX.out.2.1.two
      go_wp2_with fail
      refine kf.mono ?_
      rintro e w2 ⟨rfl, g2⟩
      clear kf m0 m1 m2 n0 n1
      have HY := hid (HX.out.grow g2)
      obtain ⟨⟨m0, m1, m2⟩, -⟩ := HY.out.1.three
      obtain ⟨-, -, c2⟩ := HC.out w2 HY.out.2.2
      clear g2 HX
      go_wp2_with fail
      refine (hh w2).mono ?_
      rintro e w3 ⟨rfl, g3⟩
      clear hh
      go_wp2
      go_ret
      exact ⟨rfl, HY.out.2.2.trans g3⟩
  · have ef : findL L c = -1 := by unfold findL; rw [if_neg hf]
    have ec : chkL L c need = 10 := by unfold chkL; rw [if_neg hf]
    rw [ef] at kf
    rw [ec]
    clear ef ec hf hn hr
    go_enter Try.func19, Try.ntmps19
    go_upto_region 1 with fail
    rw [← hW0, ← hb2, ← hb1]
    clear hW0 hb2 hb1
    obtain ⟨⟨m0, m1, m2⟩, -⟩ := HX.out.1.three
    obtain ⟨⟨n0, n1⟩, -⟩ := HX.out.2.1.two
    go_wp2_with fail
    refine kf.mono ?_
    rintro e w2 ⟨rfl, g2⟩
    clear kf
    go_wp2
    go_ret
    exact ⟨rfl, HX.out.2.2.trans g2⟩

end Go.Proofs.Ytoobohbghobfhaa
