/-
  The document's side: the walks of free, All, Same, Pick. Conditions: each theorem's own.
-/
import Derived.Test.YtoobohbghobfhaaCapD
namespace Go.Proofs.Ytoobohbghobfhaa
open Go.RowKit
set_option linter.unusedVariables false
set_option linter.unusedSimpArgs false

set_option maxHeartbeats 4000000 in
theorem rfree_any {p : Nat → Prop} (k n : Int) (v : Value) (L : List Sl) (w : World) (h : RdL p w v L) : Calls Try.prog 33 #[.agg #[.int .i64 k, .int .i64 n, v]] w fun e w' => e = .returned (.int .i64 (freeL L)) ∧ Grow w w' := by
  have hll := RdS.len h
  unfold maxLen at hll
  have HR := hid h
  obtain ⟨a, cc, rfl⟩ := RdS.shape h
  obtain ⟨W0, hW0⟩ : ∃ W0, W0 = w.alloc (.cells #[.int .i64 k, .int .i64 n, .slice a L.length cc] 30) := ⟨_, rfl⟩
  have HX : Hid (VarAt W0 w.heap.size [.int .i64 k, .int .i64 n, .slice a L.length cc] ∧ Grow w W0) := by rw [hW0]; exact ⟨VarAt.new w [.int .i64 k, .int .i64 n, .slice a L.length cc] _, (Grow.refl w).alloc _⟩
  obtain ⟨b1, hb1⟩ : ∃ b1, b1 = w.heap.size := ⟨_, rfl⟩
  rw [← hb1] at HX
  clear h
  go_enter Try.func33, Try.ntmps33
  go_upto_region 1 with fail
  rw [← hW0, ← hb1]
  clear hW0 hb1
  obtain ⟨⟨m0, m1, m2⟩, -⟩ := HX.out.1.three
  go_wp2
  go_loopg [3, 4] L.length (fun m nv iv wr => ∃ j : Nat, m = L.length - j ∧ j ≤ L.length ∧ iv = .int .i64 j ∧ nv = .int .i64 (freeL (L.take j)) ∧ W0 = wr)
  case atStart => exact ⟨0, rfl, Nat.zero_le _, rfl, rfl, rfl⟩
  case round =>
    obtain ⟨j, hk, hj, rfl, rfl, rfl⟩ := hrel
    by_cases hlt : j < L.length
    · have hlt' : (j : Int) < (L.length : Int) := by omega
      have HJ : Hid (j < L.length ∧ gk = L.length - j) := ⟨hlt, hk⟩
      have hw1 : IntKind.i64.wrap ((j : Int) + 1) = ((j + 1 : Nat) : Int) := by rw [IntKind.wrap_i64]; omega
      obtain ⟨bb, oo, e1, -, hc⟩ := rdL_at HR.out hlt
      subst e1
      obtain ⟨f0, -, -⟩ := hc W0 HX.out.2
      have hle : freeL (L.take j) ≤ j := by
        have := freeF_le (L.take j) 0
        rw [List.length_take] at this
        unfold freeL; omega
      have HT : Hid (freeL (L.take (j + 1)) = if (L.getD j Sl.zero).s = (freeL (L.take j) : Int) then freeL (L.take j) + 1 else freeL (L.take j)) := by
        have e : L.getD j Sl.zero = L[j] := by simp [List.getD, List.getElem?_eq_getElem hlt]
        show freeL _ = _
        rw [List.take_succ_eq_append_getElem hlt, e]
        exact freeF_snoc _ 0 _
      generalize L.getD j Sl.zero = x at f0 HT
      obtain ⟨xs, xg, xr⟩ := x
      simp only at f0 HT
      generalize freeL (L.take j) = q at HT hle
      have hw2 : IntKind.i64.wrap ((q : Int) + 1) = ((q + 1 : Nat) : Int) := by rw [IntKind.wrap_i64]; omega
      clear hc hk hj hlt hle
      by_cases hx : xs = (q : Int)
      · have q1 := eqs hx
        have HS : Hid (freeL (L.take (j + 1)) = q + 1) := by
          have := HT.out
          rw [if_pos hx] at this
          exact this
        clear hx HT
        go_wp2
        go_roundg (L.length - (j + 1))
        case measure => have := HJ.out; omega
        case rel => exact ⟨j + 1, rfl, HJ.out.1, by first | rfl | go_num, by rw [HS.out]; try go_num, rfl⟩
      · have q1 := neqs hx
        have HS : Hid (freeL (L.take (j + 1)) = q) := by
          have := HT.out
          rw [if_neg hx] at this
          exact this
        clear hx HT
        go_wp2
        go_roundg (L.length - (j + 1))
        case measure => have := HJ.out; omega
        case rel => exact ⟨j + 1, rfl, HJ.out.1, by first | rfl | go_num, by rw [HS.out]; try go_num, rfl⟩
    · have hlt' : ¬ (j : Int) < (L.length : Int) := by omega
      have HT : Hid (L.take j = L) := List.take_of_length_le (by omega)
      clear hk hj hlt
      go_wp2
      go_ret
      exact ⟨ret_int (by rw [HT.out]), HX.out.2⟩
set_option maxHeartbeats 4000000 in
theorem rall_any {p : Nat → Prop} (k n : Int) (v : Value) (L : List Sl) (w : World) (h : RdL p w v L) (hL : L.length ≤ 8) : Calls Try.prog 24 #[.agg #[.int .i64 k, .int .i64 n, v]] w fun e w' => ∃ v', e = .returned v' ∧ OwnS Cp.cs 2 (fun i => w.heap.size ≤ i) w' v' (L.map Sl.cp) ∧ Grow w w' := by
  obtain ⟨i0, hi, hz0, hz1, hz2⟩ := info_parts infoC
  have HR := hid h
  have HL8 := hid hL
  obtain ⟨a, cc, rfl⟩ := RdS.shape h
  obtain ⟨W0, hW0⟩ : ∃ W0, W0 = w.alloc (.cells #[.int .i64 k, .int .i64 n, .slice a L.length cc] 30) := ⟨_, rfl⟩
  have HX : Hid (VarAt W0 w.heap.size [.int .i64 k, .int .i64 n, .slice a L.length cc] ∧ Grow w W0) := by rw [hW0]; exact ⟨VarAt.new w [.int .i64 k, .int .i64 n, .slice a L.length cc] _, (Grow.refl w).alloc _⟩
  obtain ⟨b1, hb1⟩ : ∃ b1, b1 = w.heap.size := ⟨_, rfl⟩
  have HB : Hid (b1 = w.heap.size) := hb1
  rw [← hb1] at HX
  clear h hL
  go_enter Try.func24, Try.ntmps24
  go_upto_region 1 with fail
  rw [← hW0, ← hb1]
  clear hW0 hb1
  go_wp2
  go_loopg [3, 4] L.length (fun m lv iv wr => ∃ j : Nat, m = L.length - j ∧ j ≤ L.length ∧ iv = .int .i64 j ∧ Hid (OwnS Cp.cs 2 (fun i => w.heap.size ≤ i ∧ i ≠ b1) wr lv ((L.map Sl.cp).take j) ∧ VarAt wr b1 [.int .i64 k, .int .i64 n, .slice a L.length cc] ∧ Grow w wr))
  case atStart => exact ⟨0, rfl, Nat.zero_le _, rfl, OwnS.nil _ _ _ _ _, HX.out.1, HX.out.2⟩
  case round =>
    clear HX
    obtain ⟨j, hk, hj, rfl, HO⟩ := hrel
    obtain ⟨⟨m0, m1, m2⟩, -⟩ := HO.out.2.1.three
    have hl8 := HL8.out
    by_cases hlt : j < L.length
    · have hlt' : (j : Int) < (L.length : Int) := by omega
      have HJ : Hid (j < L.length ∧ gk = L.length - j) := ⟨hlt, hk⟩
      have hw1 : IntKind.i64.wrap ((j : Int) + 1) = ((j + 1 : Nat) : Int) := by rw [IntKind.wrap_i64]; omega
      obtain ⟨bb, oo, e1, -, hc⟩ := rdL_at HR.out hlt
      subst e1
      obtain ⟨f0, f1, -⟩ := hc wr HO.out.2.2
      have HT : Hid (∀ x, L.getD j Sl.zero = x → (L.map Sl.cp).take (j + 1) = (L.map Sl.cp).take j ++ [⟨x.s, x.g⟩]) := fun x hx => by
        have e : L.getD j Sl.zero = L[j] := by simp [List.getD, List.getElem?_eq_getElem hlt]
        rw [List.take_succ_eq_append_getElem (by rw [List.length_map]; exact hlt), List.getElem_map, ← e, hx]; rfl
      generalize hy : L.getD j Sl.zero = x at f0 f1
      have HT := hid (HT.out x hy)
      obtain ⟨xs, xg, xr⟩ := x
      simp only at f0 f1
      have hll : ((L.map Sl.cp).take j).length ≤ 8 := by rw [List.length_take, List.length_map]; omega
      have ho := HO.out.1.grow ((Grow.refl wr).alloc (.cells #[.int .i64 xs, .int .i64 xg] 33))
      clear hy hc hk hj hlt hl8
      go_wp2_with (at_builtin; refine wpList_appS (f := Cp.cs) (k := 2) rfl (.tmp 12) (.tmp 19) 35 35 rfl cpk (by omega) i0 (.agg #[.int .i64 0, .int .i64 0]) 16 Try.underlying35 hi hz0 hz1 hz2 rfl rfl rfl ho (src_oneC wr xs xg) (by simp only [maxLen, List.length_singleton]; omega) (by simp only [List.length_singleton]; omega) ?_)
      intro v' w' ho' hu'
      have hsz : (wr.alloc (.cells #[.int .i64 xs, .int .i64 xg] 33)).heap.size = wr.heap.size + 1 := World.size_alloc _ _
      have hgs := HO.out.2.2.size
      have hb1l := HO.out.2.1.lt
      have hva := HO.out.2.1.old (.cells #[.int .i64 xs, .int .i64 xg] 33)
      have HF : Hid (OwnS Cp.cs 2 (fun i => w.heap.size ≤ i ∧ i ≠ b1) w' v' ((L.map Sl.cp).take (j + 1)) ∧ VarAt w' b1 [.int .i64 k, .int .i64 n, .slice (some ⟨bb, oo, none⟩) L.length cc] ∧ Grow w w') :=
        ⟨by rw [HT.out]; exact ho'.mono (fun i _ hi => hi.elim (fun h => h) (fun h => ⟨by omega, by omega⟩)), hva.upd hu' (fun h => h.2 rfl), UpdS.new (HO.out.2.2.alloc _) hu' (fun i hi => hi.1)⟩
      clear ho' hu' hsz hgs ho hll hb1l hva m0 m1 m2 f0 f1
      go_wp2
      go_roundg (L.length - (j + 1))
      case measure => have := HJ.out; omega
      case rel => exact ⟨j + 1, rfl, HJ.out.1, by first | rfl | go_num, HF⟩
    · have hlt' : ¬ (j : Int) < (L.length : Int) := by omega
      have HT : Hid ((L.map Sl.cp).take j = L.map Sl.cp) := List.take_of_length_le (by rw [List.length_map]; omega)
      have HF := HO.out
      rw [HT.out] at HF
      have HF := hid HF
      clear hk hj hlt HO hl8
      go_wp2
      go_ret
      exact ⟨_, rfl, HF.out.1.mono (fun i _ hi => hi.1), HF.out.2.2⟩

set_option maxHeartbeats 4000000 in
theorem rsame_any {p q : Nat → Prop} (v1 v2 : Value) (A : List Cp) (w : World) (h1 : RdS Cp.cs 2 p w v1 A) (h2 : RdS Cp.cs 2 q w v2 A) : Calls Try.prog 22 #[v1, v2] w fun e w' => e = .returned (.bool true) ∧ Grow w w' := by
  have la := h1.len
  unfold maxLen at la
  have HA := hid h1
  have HB := hid h2
  obtain ⟨a1, c1, rfl⟩ := h1.shape
  obtain ⟨a2, c2, rfl⟩ := h2.shape
  clear h1 h2
  go_enter Try.func22, Try.ntmps22
  go_wp2
  go_loopg [5] A.length (fun m iv wr => ∃ j : Nat, m = A.length - j ∧ j ≤ A.length ∧ iv = .int .i64 j ∧ Hid (Grow w wr))
  case atStart => exact ⟨0, rfl, Nat.zero_le _, rfl, Grow.refl _⟩
  case round =>
    obtain ⟨j, hk, hj, rfl, HG⟩ := hrel
    by_cases hlt : j < A.length
    · have hlt' : (j : Int) < (A.length : Int) := by omega
      have HJ : Hid (j < A.length ∧ gk = A.length - j) := ⟨hlt, hk⟩
      have hw1 : IntKind.i64.wrap ((j : Int) + 1) = ((j + 1 : Nat) : Int) := by rw [IntKind.wrap_i64]; omega
      obtain ⟨b1, o1, e1, f0, f1⟩ := rdC_at (RdS.grow HA.out (HG.out.drew)) hlt
      obtain ⟨b2, o2, e2, g0, g1⟩ := rdC_at (RdS.grow HB.out (HG.out.drew)) hlt
      subst e1 e2
      generalize A.getD j Cp.zero = x at f0 f1 g0 g1
      obtain ⟨xs, xg⟩ := x
      simp only at f0 f1 g0 g1
      have fz : ∀ w', Grow wr.drew w' → (w'.cell? ⟨b1, o1 + j * 2, none⟩ = some (.int .i64 xs) ∧ w'.cell? ⟨b1, o1 + j * 2 + 1, none⟩ = some (.int .i64 xg)) ∧ (w'.cell? ⟨b2, o2 + j * 2, none⟩ = some (.int .i64 xs) ∧ w'.cell? ⟨b2, o2 + j * 2 + 1, none⟩ = some (.int .i64 xg)) := fun w' hg => ⟨⟨grow_cell hg f0, grow_cell hg f1⟩, grow_cell hg g0, grow_cell hg g1⟩
      clear f0 f1 g0 g1 hlt hk hj
      go_wp2
      refine wp_region_sched (by kernel_rfl) [(0, false), (1, false), (2, false), (3, false), (4, false), (5, false), (6, false), (7, false), (8, false)] (by kernel_rfl) (by kernel_rfl) rfl (fun _ _ d _ _ h => by cases d <;> exact h) ?_
      simp only [inOrder, List.filterMap_cons, List.filterMap_nil, List.getElem?_toArray, List.getElem?_cons_zero, List.getElem?_cons_succ, Option.map_some]
      repeat (first
        | (refine wpS_move rfl ?_; simp only [Act.eval, Act.put, Array.getD_eq_getD_getElem?, List.getElem?_toArray, List.getElem?_cons_zero, List.getElem?_cons_succ, Option.getD_some, List.setIfInBounds_toArray, List.set_cons_zero, List.set_cons_succ])
        | (refine wpS_assign rfl ?_; simp only [Act.eval, Act.put, Array.getD_eq_getD_getElem?, List.getElem?_toArray, List.getElem?_cons_zero, List.getElem?_cons_succ, Option.getD_some, List.setIfInBounds_toArray, List.set_cons_zero, List.set_cons_succ])
        | (refine wpS_read (v := ?_) rfl ?_ ?_; rotate_left; (focus (intro w' hG; obtain ⟨⟨y0, y1⟩, y2, y3⟩ := fz w' hG; go_simp; try (with_reducible rfl))); simp only [Act.put, List.setIfInBounds_toArray, List.set_cons_zero, List.set_cons_succ])
        | (refine wpS_skip rfl ?_; simp only [Act.put, List.setIfInBounds_toArray, List.set_cons_zero, List.set_cons_succ]))
      refine wpS_nil ?_
      clear fz
      have HG2 := hid HG.out.drew
      go_wp2
      go_roundg (A.length - (j + 1))
      case measure => have := HJ.out; omega
      case rel => exact ⟨j + 1, rfl, HJ.out.1, by first | rfl | go_num, HG2.out⟩
    · have hlt' : ¬ (j : Int) < (A.length : Int) := by omega
      clear hk hj hlt
      go_wp2
      go_ret
      exact ⟨rfl, HG.out⟩

/-- one of those that were given out, or a raw one -/
def pickC (A : List Cp) (k n : Int) : Cp := if around k ((A.length : Int) + 2) < A.length then A.getD (around k ((A.length : Int) + 2)).toNat Cp.zero else if around k ((A.length : Int) + 2) = A.length then ⟨n, n⟩ else ⟨around n 9, (A.getD (around n (A.length : Int)).toNat Cp.zero).g⟩
set_option maxHeartbeats 4000000 in
theorem rpick_any {p : Nat → Prop} (v : Value) (A : List Cp) (k n : Int) (w : World) (h : RdS Cp.cs 2 p w v A) (hA : 0 < A.length) (hA2 : A.length ≤ 1000) (hk : (Lit.int .i64 k).wf = true) (hn : (Lit.int .i64 n).wf = true) : Calls Try.prog 13 #[v, .int .i64 k, .int .i64 n] w fun e w' => e = .returned (.agg #[.int .i64 (pickC A k n).s, .int .i64 (pickC A k n).g]) ∧ Grow w w' := by
  have HA := hid h
  obtain ⟨a, cc, rfl⟩ := h.shape
  have hk2 := fun u => around_any k ((A.length : Int) + 2) u hk (by omega) (by omega)
  have hb2 := around_bd k ((A.length : Int) + 2) (by omega)
  have hkA := fun u => around_any n (A.length : Int) u hn (by omega) (by omega)
  have hbA := around_bd n (A.length : Int) (by omega)
  have hk9 := fun u => around_any n 9 u hn (by omega) (by omega)
  have hw2 : IntKind.i64.wrap ((A.length : Int) + 2) = (A.length : Int) + 2 := by rw [IntKind.wrap_i64]; omega
  have HP : Hid (pickC A k n = if around k ((A.length : Int) + 2) < A.length then A.getD (around k ((A.length : Int) + 2)).toNat Cp.zero else if around k ((A.length : Int) + 2) = A.length then ⟨n, n⟩ else ⟨around n 9, (A.getD (around n (A.length : Int)).toNat Cp.zero).g⟩) := rfl
  generalize pickC A k n = pc at HP ⊢
  generalize around k ((A.length : Int) + 2) = m at hk2 hb2 HP
  generalize around n (A.length : Int) = q at hkA hbA HP
  generalize around n 9 = r9 at hk9 HP
  obtain ⟨m, rfl⟩ := Int.eq_ofNat_of_zero_le hb2.1
  obtain ⟨q, rfl⟩ := Int.eq_ofNat_of_zero_le hbA.1
  simp only [Int.toNat_natCast] at HP
  obtain ⟨W0, hW0⟩ : ∃ W0, W0 = w.alloc (.cells #[.int .i64 0, .int .i64 0] 33) := ⟨_, rfl⟩
  have HX : Hid (VarAt W0 w.heap.size [.int .i64 0, .int .i64 0] ∧ Grow w W0) := by rw [hW0]; exact ⟨VarAt.new w [.int .i64 0, .int .i64 0] _, (Grow.refl w).alloc _⟩
  obtain ⟨b1, hb1⟩ : ∃ b1, b1 = w.heap.size := ⟨_, rfl⟩
  have HB : Hid (b1 = w.heap.size) := hb1
  rw [← hb1] at HX
  obtain ⟨⟨z0, z1⟩, y0, y1⟩ := HX.out.1.two
  by_cases c1 : m < A.length
  · have c1' : (m : Int) < (A.length : Int) := by omega
    obtain ⟨bb, oo, e1, f0, f1⟩ := rdC_at (RdS.grow HA.out HX.out.2) c1
    subst e1
    have HE : Hid (pc = A.getD m Cp.zero) := by have := HP.out; rw [if_pos c1'] at this; exact this
    generalize A.getD m Cp.zero = x at f0 f1 HE
    obtain ⟨xs, xg⟩ := x
    simp only at f0 f1
    clear HP h hA hA2 hk hn hb2 hbA c1 hkA hk9
    go_enter Try.func13, Try.ntmps13
    go_upto_region 1 with fail
    rw [← hW0, ← hb1]
    clear hW0 hb1
    go_wp2_with fail
    refine (hk2 W0).mono ?_
    rintro e w2 ⟨rfl, rfl⟩
    clear hk2
    go_wp2
    have hU := upd_pair W0 b1 (.int .i64 xs) (.int .i64 xg)
    exact bodyPost_ret_by (results_cell rfl _ _ _ _ rfl (load_C b1 _ _ _ (HX.out.1.set2 _ _))) rfl ⟨by rw [HE.out], UpdS.new HX.out.2 hU (fun i hi => by have := HB.out; omega)⟩
  · have c1' : ¬ (m : Int) < (A.length : Int) := by omega
    by_cases c2 : m = A.length
    · have c2' : ((m : Int) == (A.length : Int)) = true := eqs (by omega)
      have HE : Hid (pc = ⟨n, n⟩) := by have := HP.out; rw [if_neg c1', if_pos (by omega)] at this; exact this
      clear HP h hA hA2 hk hn hb2 hbA c1 c2 hkA hk9
      go_enter Try.func13, Try.ntmps13
      go_upto_region 1 with fail
      rw [← hW0, ← hb1]
      clear hW0 hb1
      go_wp2_with fail
      refine (hk2 W0).mono ?_
      rintro e w2 ⟨rfl, rfl⟩
      clear hk2
      go_wp2
      have hU := upd_pair W0 b1 (.int .i64 n) (.int .i64 n)
      exact bodyPost_ret_by (results_cell rfl _ _ _ _ rfl (load_C b1 _ _ _ (HX.out.1.set2 _ _))) rfl ⟨by rw [HE.out], UpdS.new HX.out.2 hU (fun i hi => by have := HB.out; omega)⟩
    · have c2' : ((m : Int) == (A.length : Int)) = false := neqs (by omega)
      have hq : q < A.length := by omega
      have hq' : (q : Int) < (A.length : Int) := by omega
      obtain ⟨bb, oo, e1, f0, f1⟩ := rdC_at (RdS.grow HA.out HX.out.2) hq
      subst e1
      have HE : Hid (pc = ⟨r9, (A.getD q Cp.zero).g⟩) := by have := HP.out; rw [if_neg c1', if_neg (by omega)] at this; exact this
      generalize A.getD q Cp.zero = x at f0 f1 HE
      obtain ⟨xs, xg⟩ := x
      simp only at f0 f1
      clear HP h hA hA2 hk hn hb2 hbA c1 c2 hq
      go_enter Try.func13, Try.ntmps13
      go_upto_region 1 with fail
      rw [← hW0, ← hb1]
      clear hW0 hb1
      go_wp2_with fail
      refine (hk2 W0).mono ?_
      rintro e w2 ⟨rfl, rfl⟩
      clear hk2
      go_wp2_with fail
      refine (hkA W0).mono ?_
      rintro e w2 ⟨rfl, rfl⟩
      clear hkA
      have HY : Hid (VarAt (W0.alloc (.cells #[.int .i64 xs, .int .i64 xg] 33)) b1 [.int .i64 0, .int .i64 0] ∧ VarAt (W0.alloc (.cells #[.int .i64 xs, .int .i64 xg] 33)) W0.heap.size [.int .i64 xs, .int .i64 xg] ∧ Grow w (W0.alloc (.cells #[.int .i64 xs, .int .i64 xg] 33)) ∧ b1 < W0.heap.size) := ⟨HX.out.1.old _, VarAt.new W0 [.int .i64 xs, .int .i64 xg] _, HX.out.2.alloc _, HX.out.1.lt⟩
      go_wp2_with fail
      generalize W0.alloc (.cells #[.int .i64 xs, .int .i64 xg] 33) = W1 at HY ⊢
      generalize W0.heap.size = b8 at HY ⊢
      refine (hk9 W1).mono ?_
      rintro e w2 ⟨rfl, rfl⟩
      clear hk9 z0 z1 y0 y1 f0 f1
      obtain ⟨⟨n0, n1⟩, p0, p1⟩ := HY.out.2.1.two
      obtain ⟨⟨z0, z1⟩, y0, y1⟩ := HY.out.1.two
      have hlt := HY.out.2.2.2
      go_wp2
      have hU0 := upd_one W1 b8 0 (.int .i64 r9)
      have hV0 := HY.out.1.upd hU0 (by omega)
      have hg0 : Grow w (W1.setCell ⟨b8, 0, none⟩ (.int .i64 r9)) := UpdS.new HY.out.2.2.1 hU0 (fun i hi => by have := HB.out; omega)
      have hU := upd_pair (W1.setCell ⟨b8, 0, none⟩ (.int .i64 r9)) b1 (.int .i64 r9) (.int .i64 xg)
      exact bodyPost_ret_by (results_cell rfl _ _ _ _ rfl (load_C b1 _ _ _ (hV0.set2 _ _))) rfl ⟨by rw [HE.out], UpdS.new hg0 hU (fun i hi => by have := HB.out; omega)⟩
end Go.Proofs.Ytoobohbghobfhaa
