/-
  The walks of the document's Names and Parse. Conditions: each theorem's own.
-/
import Derived.Test.YtfpgbicikpkkiaaDoorRigE
namespace Go.Proofs.YtfpgbicikpkkiaaDoor
open Go.RowKit
set_option linter.unusedVariables false
set_option linter.unusedSimpArgs false

theorem nm4_cell (w : World) (t : TypeId) (j : Nat) (h : j < 4) : (w.alloc (.cells #[.string ⟨#[115, 101, 101]⟩, .string ⟨#[99, 104, 97, 110, 103, 101]⟩, .string ⟨#[107, 101, 101, 112]⟩, .string ⟨#[103, 105, 118, 101]⟩] t)).cell? ⟨w.heap.size, j, none⟩ = some (.string (nm j)) := by
  refine (World.cell?_alloc_new w _ _ j).trans ?_
  rcases (show j = 0 ∨ j = 1 ∨ j = 2 ∨ j = 3 by omega) with rfl | rfl | rfl | rfl <;> rfl
theorem pw4_cell (w : World) (t : TypeId) (j : Nat) (h : j < 4) : (w.alloc (.cells #[.int .i64 1, .int .i64 2, .int .i64 4, .int .i64 8] t)).cell? ⟨w.heap.size, j, none⟩ = some (.int .i64 ((2 ^ j : Nat) : Int)) := by
  refine (World.cell?_alloc_new w _ _ j).trans ?_
  rcases (show j = 0 ∨ j = 1 ∨ j = 2 ∨ j = 3 by omega) with rfl | rfl | rfl | rfl <;> rfl

theorem Tryd.infoIn : (Tryd.prog.info? 3).map (fun i => (i.zero, i.size, i.bytes)) = some (some (Value.int .i64 0), 1, 8) := by kernel_rfl

set_option maxHeartbeats 4000000 in
theorem rnames_any (s : Nat) (w : World) (hs : s < 16) : Calls Tryd.prog 22 #[.int .i64 s] w fun e w' => ∃ v, e = .returned v ∧ OwnV Value.string ⟨#[]⟩ (fun i => w.heap.size ≤ i) w' v (nmL s 4) ∧ Grow w w' := by
  obtain ⟨i0, hi, hz0, hz1, hz2⟩ := info_parts Tryd.infoSt
  have hg : Grow w ((w.alloc (.cells #[.string ⟨#[115, 101, 101]⟩, .string ⟨#[99, 104, 97, 110, 103, 101]⟩, .string ⟨#[107, 101, 101, 112]⟩, .string ⟨#[103, 105, 118, 101]⟩] 9)).alloc (.cells #[.int .i64 1, .int .i64 2, .int .i64 4, .int .i64 8] 3)) := ((Grow.refl w).alloc _).alloc _
  have hcs : ∀ j, j < 4 → ((w.alloc (.cells #[.string ⟨#[115, 101, 101]⟩, .string ⟨#[99, 104, 97, 110, 103, 101]⟩, .string ⟨#[107, 101, 101, 112]⟩, .string ⟨#[103, 105, 118, 101]⟩] 9)).alloc (.cells #[.int .i64 1, .int .i64 2, .int .i64 4, .int .i64 8] 3)).cell? ⟨w.heap.size, j, none⟩ = some (.string (nm j)) := fun j hj => grow_cell ((Grow.refl _).alloc _) (nm4_cell w 9 j hj)
  have hci : ∀ j, j < 4 → ((w.alloc (.cells #[.string ⟨#[115, 101, 101]⟩, .string ⟨#[99, 104, 97, 110, 103, 101]⟩, .string ⟨#[107, 101, 101, 112]⟩, .string ⟨#[103, 105, 118, 101]⟩] 9)).alloc (.cells #[.int .i64 1, .int .i64 2, .int .i64 4, .int .i64 8] 3)).cell? ⟨w.heap.size + 1, j, none⟩ = some (.int .i64 ((2 ^ j : Nat) : Int)) := fun j hj => by
    have := pw4_cell (w.alloc (.cells #[.string ⟨#[115, 101, 101]⟩, .string ⟨#[99, 104, 97, 110, 103, 101]⟩, .string ⟨#[107, 101, 101, 112]⟩, .string ⟨#[103, 105, 118, 101]⟩] 9)) 3 j hj
    rwa [World.size_alloc] at this
  have HL : Hid (∀ j, (nmL s j).length ≤ j) := fun j => nmL_len s j
  have HS : Hid (s < 16) := hs
  clear hs
  go_enter Tryd.func22, Tryd.ntmps22
  go_wp2
  generalize (w.alloc (.cells #[.string ⟨#[115, 101, 101]⟩, .string ⟨#[99, 104, 97, 110, 103, 101]⟩, .string ⟨#[107, 101, 101, 112]⟩, .string ⟨#[103, 105, 118, 101]⟩] 9)).alloc (.cells #[.int .i64 1, .int .i64 2, .int .i64 4, .int .i64 8] 3) = W1 at *
  have HC : Hid ((∀ j, j < 4 → W1.cell? ⟨w.heap.size, j, none⟩ = some (.string (nm j))) ∧ (∀ j, j < 4 → W1.cell? ⟨w.heap.size + 1, j, none⟩ = some (.int .i64 ((2 ^ j : Nat) : Int))) ∧ Grow w W1) := ⟨hcs, hci, hg⟩
  clear hcs hci hg
  go_loopg [3, 6] 4 (fun k v i wr => ∃ j : Nat, k = 4 - j ∧ j ≤ 4 ∧ i = .int .i64 j ∧ Hid (OwnV Value.string ⟨#[]⟩ (fun i => W1.heap.size ≤ i) wr v (nmL s j) ∧ Grow W1 wr))
  case atStart => exact ⟨0, rfl, Nat.zero_le _, rfl, OwnV.nil _ _ _ _ _, Grow.refl _⟩
  case round =>
    obtain ⟨j, hk, hj, rfl, HO⟩ := hrel
    by_cases hlt : j < 4
    · have hlt' : (j : Int) < 4 := by omega
      have HJ : Hid (j < 4 ∧ gk = 4 - j) := ⟨hlt, hk⟩
      have f1 := grow_cell HO.out.2 (HC.out.1 j hlt)
      have f2 := grow_cell HO.out.2 (HC.out.2.1 j hlt)
      have hbt := rbit_any s j _ wr HS.out hlt rfl
      have hll := HL.out j
      have HY : Hid (s.testBit j = true → nmL s (j + 1) = nmL s j ++ [nm j]) := nmL_yes s j
      have HN : Hid (s.testBit j = false → nmL s (j + 1) = nmL s j) := nmL_no s j
      generalize nm j = y at f1 HY
      generalize ((2 ^ j : Nat) : Int) = pw at f2 hbt
      clear hk hj hlt
      go_wp2_with fail
      refine hbt.mono ?_
      rintro e w1 ⟨rfl, rfl⟩
      clear hbt
      cases hb : s.testBit j
      · go_wp2
        go_roundg (4 - (j + 1))
        case measure => have := HJ.out; omega
        case rel => exact ⟨j + 1, rfl, HJ.out.1, by go_num, by rw [HN.out hb]; exact HO.out⟩
      · have HYB : Hid (nmL s (j + 1) = nmL s j ++ [y]) := HY.out hb
        have HJ3 : Hid (j < 4) := HJ.out.1
        have ho := HO.out.1.grow ((Grow.refl wr).alloc (.cells #[Value.string y] 9))
        have hl4 : (nmL s j).length ≤ 4 := by have := HJ3.out; omega
        clear hb hll
        go_wp2_with (at_builtin; refine wpList_appV (f := Value.string) (d := ⟨#[]⟩) rfl (.tmp 21) (.tmp 26) 38 38 rfl i0 (Value.string ⟨#[]⟩) 16 Tryd.underlying38 hi hz0 hz1 hz2 rfl rfl rfl ho (Src.oneV (w := wr) Tryd.underlying38 Value.string y rfl 9) (by simp only [maxLen, List.length_singleton]; omega) (by simp only [List.length_singleton]; omega) ?_)
        intro v' w' ho' hu'
        have hsz : (wr.alloc (.cells #[Value.string y] 9)).heap.size = wr.heap.size + 1 := World.size_alloc _ _
        have hgs := HO.out.2.size
        have HF : Hid (OwnV Value.string ⟨#[]⟩ (fun i => W1.heap.size ≤ i) w' v' (nmL s (j + 1)) ∧ Grow W1 w') := by
          refine ⟨by rw [HYB.out]; exact ho'.mono (fun i _ hi => hi.elim (fun h => h) (fun h => by omega)), UpdS.new (HO.out.2.alloc _) hu' (fun i hi => hi)⟩
        clear ho' hu' hsz hgs ho hl4
        go_wp2
        go_roundg (4 - (j + 1))
        case measure => have := HJ.out; omega
        case rel => exact ⟨j + 1, rfl, HJ.out.1, by go_num, HF.out⟩
    · obtain rfl : 4 = j := by omega
      go_wp2
      go_ret
      exact ⟨_, rfl, HO.out.1.mono (fun i _ hi => Nat.le_trans HC.out.2.2.size hi), HC.out.2.2.trans HO.out.2⟩

/-- the names laid: the act, and what is read of them later -/
theorem exec_nm4 {w : World} {o : Oper} {a : Act} (ho : o.op = .buildSlice 38 4 #[(0, .const (.string ⟨#[115, 101, 101]⟩)), (1, .const (.string ⟨#[99, 104, 97, 110, 103, 101]⟩)), (2, .const (.string ⟨#[107, 101, 101, 112]⟩)), (3, .const (.string ⟨#[103, 105, 118, 101]⟩))]) :
    (execOp a.eval o).run Tryd.prog w = .ok (.value (.slice (some ⟨w.heap.size, 0, none⟩) 4 4)) (w.alloc (.cells #[.string ⟨#[115, 101, 101]⟩, .string ⟨#[99, 104, 97, 110, 103, 101]⟩, .string ⟨#[107, 101, 101, 112]⟩, .string ⟨#[103, 105, 118, 101]⟩] 9)) := by
  simp only [execOp, ho, List.mapM_cons, Array.map, Array.toList]
  go_simp

/-- what the document's Parse tells -/
def rparV (l : List ByteArray) : Int := if allN l = true then (parS l : Int) else -1
theorem rparV_yes {l : List ByteArray} (h : allN l = true) : rparV l = (parS l : Int) := if_pos h
theorem rparV_no {l : List ByteArray} (h : allN l = false) : rparV l = -1 := if_neg (by rw [h]; exact Bool.false_ne_true)

set_option maxHeartbeats 4000000 in
theorem rparse_any (w : World) (p : Nat → Prop) (v : Value) (ls : List ByteArray) (h : RdV Value.string ⟨#[]⟩ p w v ls) (hlen : ls.length ≤ 1000) :
    Calls Tryd.prog 23 #[v] w fun e w' => e = .returned (.int .i64 (rparV ls)) ∧ Grow w w' := by
  obtain ⟨i0, hi, hz0, hz1, hz2⟩ := info_parts Tryd.infoIn
  have HR : Hid (RdV Value.string ⟨#[]⟩ p w v ls ∧ ls.length ≤ 1000) := ⟨h, hlen⟩
  obtain ⟨a, c, rfl⟩ := h.shape
  clear h
  go_enter Tryd.func23, Tryd.ntmps23
  go_wp2
  go_loopg [3, 4] ls.length (fun k v i wr => ∃ j : Nat, k = ls.length - j ∧ j ≤ ls.length ∧ i = .int .i64 j ∧ Hid (OwnV natI 0 (fun i => w.heap.size ≤ i) wr v ((ls.map rg).take j) ∧ Grow w wr ∧ allN (ls.take j) = true))
  case atStart => exact ⟨0, rfl, Nat.zero_le _, rfl, OwnV.nil _ _ _ _ _, Grow.refl _, rfl⟩
  case round =>
    obtain ⟨j, hk, hj, rfl, HO⟩ := hrel
    obtain ⟨W2, rfl⟩ : ∃ W2, W2 = wr := ⟨_, rfl⟩
    by_cases hlt : j < ls.length
    · have hlt' : (j : Int) < (ls.length : Int) := by omega
      have HJ : Hid (j < ls.length ∧ gk = ls.length - j) := ⟨hlt, hk⟩
      obtain ⟨b1, o1, e1, -, hc1⟩ := HR.out.1.addr (by omega)
      have f1 := hc1 j hlt
      have HA : Hid (allN (ls.take (j + 1)) = (allN (ls.take j) && decide (rg (ls.getD j ⟨#[]⟩) ≠ 0))) := allN_take ls ⟨#[]⟩ j hlt
      have HX : Hid (rg (ls.getD j ⟨#[]⟩) = 0 → allN ls = false) := allN_not ls ⟨#[]⟩ j hlt
      have HT : Hid ((ls.map rg).take (j + 1) = (ls.map rg).take j ++ [rg (ls.getD j ⟨#[]⟩)]) := by show _ = _; rw [← List.map_take, ← List.map_take, take_snoc ls ⟨#[]⟩ j hlt, List.map_append]; rfl
      generalize ls.getD j ⟨#[]⟩ = y at f1 HA HX HT
      clear hc1 hk hj hlt
      subst e1
      go_wp2
      go_loopg [5, 6] 4 (fun k n i wr => ∃ m : Nat, k = 4 - m ∧ m ≤ 4 ∧ n = .int .i64 (rn y m) ∧ i = .int .i64 m ∧ Hid (Grow W2 wr))
      case atStart => exact ⟨0, rfl, Nat.zero_le _, rfl, rfl, Grow.refl _⟩
      case round =>
        obtain ⟨m, hk, hm, rfl, rfl, HG⟩ := hrel
        by_cases hlm : m < 4
        · have hlm' : (m : Int) < 4 := by omega
          have HK : Hid (m < 4 ∧ gk = 4 - m) := ⟨hlm, hk⟩
          have f2 := grow_cell (HO.out.2.1.trans HG.out) f1
          have kx : ∀ w', Grow wr.drew w' → w'.cell? ⟨b1, o1 + j, none⟩ = some (.string y) := fun w' hG => grow_cell (((Grow.refl wr).drew).trans hG) f2
          have f3 := nm4_cell wr.drew 9 m hlm
          have hg4 : Grow wr.drew (wr.drew.alloc (.cells #[.string ⟨#[115, 101, 101]⟩, .string ⟨#[99, 104, 97, 110, 103, 101]⟩, .string ⟨#[107, 101, 101, 112]⟩, .string ⟨#[103, 105, 118, 101]⟩] 9)) := (Grow.refl _).alloc _
          have hact : ∀ (o : Oper) (a : Act), o.op = .buildSlice 38 4 #[(0, .const (.string ⟨#[115, 101, 101]⟩)), (1, .const (.string ⟨#[99, 104, 97, 110, 103, 101]⟩)), (2, .const (.string ⟨#[107, 101, 101, 112]⟩)), (3, .const (.string ⟨#[103, 105, 118, 101]⟩))] → (execOp a.eval o).run Tryd.prog wr.drew = .ok (.value (.slice (some ⟨wr.drew.heap.size, 0, none⟩) 4 4)) (wr.drew.alloc (.cells #[.string ⟨#[115, 101, 101]⟩, .string ⟨#[99, 104, 97, 110, 103, 101]⟩, .string ⟨#[107, 101, 101, 112]⟩, .string ⟨#[103, 105, 118, 101]⟩] 9)) := fun o a ho => exec_nm4 ho
          generalize wr.drew.alloc (.cells #[.string ⟨#[115, 101, 101]⟩, .string ⟨#[99, 104, 97, 110, 103, 101]⟩, .string ⟨#[107, 101, 101, 112]⟩, .string ⟨#[103, 105, 118, 101]⟩] 9) = W4 at f3 hg4 hact
          generalize wr.drew.heap.size = B4 at f3 hact
          have kx2 : ∀ w', Grow W4 w' → w'.cell? ⟨B4, m, none⟩ = some (.string (nm m)) := fun w' hG => grow_cell hG f3
          have HY : Hid (nm m = y → rn y (m + 1) = ((2 ^ m : Nat) : Int)) := rn_yes y m
          have HN : Hid (nm m ≠ y → rn y (m + 1) = rn y m) := rn_no y m
          have f4 := pw4_cell W4 3 m hlm
          have hbe := ba_beq (nm m) y
          generalize nm m = z at f3 kx2 HY HN hbe
          generalize ((2 ^ m : Nat) : Int) = pw at f4 HY
          generalize rn y m = rm at *
          have HG4 : Hid (Grow W2 W4) := HG.out.trans (((Grow.refl wr).drew).trans hg4)
          clear hk hm hlm f2 f3
          go_wp2
          refine wp_region_sched (by kernel_rfl) [(1, false), (4, false), (5, false), (6, false), (7, false), (0, true), (2, false), (3, false), (8, false)] (by kernel_rfl) (by kernel_rfl) rfl (fun _ _ d _ _ h => by cases d <;> exact h) ?_
          simp only [inOrder, List.filterMap_cons, List.filterMap_nil, List.getElem?_toArray, List.getElem?_cons_zero, List.getElem?_cons_succ, Option.map_some]
          repeat (first
            | (refine wpS_move rfl ?_; simp only [Act.eval, Act.put, Array.getD_eq_getD_getElem?, List.getElem?_toArray, List.getElem?_cons_zero, List.getElem?_cons_succ, Option.getD_some, List.setIfInBounds_toArray, List.set_cons_zero, List.set_cons_succ])
            | (refine wpS_assign rfl ?_; simp only [Act.eval, Act.put, Array.getD_eq_getD_getElem?, List.getElem?_toArray, List.getElem?_cons_zero, List.getElem?_cons_succ, Option.getD_some, List.setIfInBounds_toArray, List.set_cons_zero, List.set_cons_succ])
            | (refine wpS_read (v := ?_) rfl ?_ ?_; rotate_left; (focus (intro w' hG; have k1 := kx w' hG; go_simp; try (with_reducible rfl))); simp only [Act.put, List.setIfInBounds_toArray, List.set_cons_zero, List.set_cons_succ])
            | (refine wpS_skip rfl ?_; simp only [Act.put, List.setIfInBounds_toArray, List.set_cons_zero, List.set_cons_succ]))
          refine wpS_act rfl (hact _ _ rfl) hg4 ?_
          simp only [Act.put, List.setIfInBounds_toArray, List.set_cons_zero, List.set_cons_succ]
          repeat (first
            | (refine wpS_move rfl ?_; simp only [Act.eval, Act.put, Array.getD_eq_getD_getElem?, List.getElem?_toArray, List.getElem?_cons_zero, List.getElem?_cons_succ, Option.getD_some, List.setIfInBounds_toArray, List.set_cons_zero, List.set_cons_succ])
            | (refine wpS_assign rfl ?_; simp only [Act.eval, Act.put, Array.getD_eq_getD_getElem?, List.getElem?_toArray, List.getElem?_cons_zero, List.getElem?_cons_succ, Option.getD_some, List.setIfInBounds_toArray, List.set_cons_zero, List.set_cons_succ])
            | (refine wpS_read (v := ?_) rfl ?_ ?_; rotate_left; (focus (intro w' hG; have k2 := kx2 w' hG; go_simp; try (with_reducible rfl))); simp only [Act.put, List.setIfInBounds_toArray, List.set_cons_zero, List.set_cons_succ])
            | (refine wpS_skip rfl ?_; simp only [Act.put, List.setIfInBounds_toArray, List.set_cons_zero, List.set_cons_succ]))
          refine wpS_nil ?_
          clear kx kx2 hact hg4
          cases hdz : decide (z = y)
          · have HE : Hid (rn y (m + 1) = rm) := HN.out (of_decide_eq_false hdz)
            clear hdz f4
            go_wp2
            go_roundg (4 - (m + 1))
            case measure => have := HK.out; omega
            case rel => exact ⟨m + 1, rfl, HK.out.1, by rw [HE.out], by go_num, HG4.out⟩
          · have HE : Hid (rn y (m + 1) = pw) := HY.out (of_decide_eq_true hdz)
            clear hdz
            go_wp2
            go_roundg (4 - (m + 1))
            case measure => have := HK.out; omega
            case rel => exact ⟨m + 1, rfl, HK.out.1, by rw [HE.out], by go_num, HG4.out.alloc _⟩
        · obtain rfl : 4 = m := by omega
          have h4 := rn_four y
          clear hlm hk hm
          by_cases h0 : rg y = 0
          · have HE : Hid (rparV ls = -1) := rparV_no (HX.out h0)
            rw [h4, if_pos h0]
            clear h4 h0
            go_wp2
            go_ret
            exact ⟨by rw [HE.out]; rfl, HO.out.2.1.trans HG.out⟩
          · have HQ : Hid (rg y ≠ 0) := h0
            rw [h4, if_neg h0]
            generalize rg y = q at *
            have hq0 : ¬ (q : Int) < 0 := by omega
            have hll : ((ls.map rg).take j).length ≤ 1000 := by rw [List.length_take, List.length_map]; have := HR.out.2; omega
            have ho := (HO.out.1.grow HG.out).grow ((Grow.refl wr).alloc (.cells #[Value.int .i64 q] 3))
            clear h4 h0
            go_wp2_with (at_builtin; refine wpList_appV (f := natI) (d := 0) rfl (.tmp 32) (.tmp 34) 27 27 rfl i0 (Value.int .i64 0) 8 Tryd.underlying27 hi hz0 hz1 hz2 rfl rfl rfl ho (Src.oneV (w := wr) Tryd.underlying27 natI q rfl 3) (by simp only [maxLen, List.length_singleton]; omega) (by simp only [List.length_singleton]; omega) ?_)
            intro v' w' ho' hu'
            have hsz : (wr.alloc (.cells #[Value.int .i64 q] 3)).heap.size = wr.heap.size + 1 := World.size_alloc _ _
            have hgs := (HO.out.2.1.trans HG.out).size
            have HF : Hid (OwnV natI 0 (fun i => w.heap.size ≤ i) w' v' ((ls.map rg).take (j + 1)) ∧ Grow w w') :=
              ⟨by rw [HT.out]; exact ho'.mono (fun i _ hi => hi.elim (fun h => h) (fun h => by omega)), UpdS.new ((HO.out.2.1.trans HG.out).alloc _) hu' (fun i hi => hi)⟩
            clear ho' hu' hsz hgs ho hll
            go_wp2
            go_roundg (ls.length - (j + 1))
            case measure => have := HJ.out; omega
            case rel => exact ⟨j + 1, rfl, HJ.out.1, by go_num, HF.out.1, HF.out.2, by rw [HA.out, HO.out.2.2, decide_eq_true HQ.out]; rfl⟩
    · obtain rfl : j = ls.length := by omega
      have hA : allN ls = true := by have := HO.out.2.2; rwa [List.take_length] at this
      have hP : rparV ls = (parS ls : Int) := rparV_yes hA
      have HOW := HO.out.1
      rw [List.take_of_length_le (by rw [List.length_map]; exact Nat.le_refl _)] at HOW
      have HF : Hid (Grow w W2 ∧ rparV ls = (orL (ls.map rg) : Int)) := ⟨HO.out.2.1, hP⟩
      have hof := rof_any W2 _ _ _ HOW.rd (fun x hx => by obtain ⟨s, _, rfl⟩ := List.mem_map.1 hx; exact rg_lt s)
      obtain ⟨a3, c3, hv⟩ := HOW.shape
      rw [List.length_map] at hv
      subst hv
      have hle := hlen
      clear hlen
      generalize orL (ls.map rg) = R at hof HF
      clear hA hP HOW HO hlt hk hj
      go_wp2_with fail
      refine hof.mono ?_
      rintro e w1 ⟨rfl, g1⟩
      go_wp2
      go_ret
      exact ⟨by rw [HF.out.2]; rfl, HF.out.1.trans g1⟩
end Go.Proofs.YtfpgbicikpkkiaaDoor
