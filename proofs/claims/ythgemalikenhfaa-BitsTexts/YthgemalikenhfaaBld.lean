/-
  The walks of strings.Builder's copyCheck, WriteByte and String. Conditions: each theorem's own.
-/
import Derived.Test.YthgemalikenhfaaLib
import Derived.Test.YthgemalikenhfaaSched
import Derived.Test.YthgemalikenhfaaRows
import Derived.WalkKit
import Derived.ProofKit
import Derived.Outline
import Derived.Lib.Builder
import Derived.Lib.AppendStr
import Derived.Lib.UnsafeStr
import Derived.Laws.Externs
import Derived.OwnWalk
namespace Go.Proofs.Ythgemalikenhfaa
open Go.RowKit
set_option linter.unusedVariables false
set_option linter.unusedSimpArgs false

theorem Try.sizeBld : (Try.prog.info? 55).map (fun i => i.size) = some 2 := by kernel_rfl
theorem Try.liesBld : liesAt Try.prog Try.prog.depth 55 (2 / Try.prog.cellsOf 55) 0 55 1 = true := by kernel_rfl
theorem Try.infoU8 : (Try.prog.info? 5).map (fun i => (i.zero, i.size, i.bytes)) = some (some (.int .u8 0), 1, 1) := by kernel_rfl
theorem Try.cellsU8 : Try.prog.cellsOf 5 = 1 := by kernel_rfl

set_option maxHeartbeats 1000000 in
set_option maxRecDepth 100000 in
theorem cc_used (b : Nat) (w : World) (h0 : w.cell? ⟨b, 0, none⟩ = some (.pointer (some ⟨b, 0, none⟩))) :
    Calls Try.prog 27 #[.pointer (some ⟨b, 0, none⟩)] w fun e w' => e = .returned (.tuple #[]) ∧ w' = w := by
  obtain ⟨j, hj, _⟩ := Option.map_eq_some_iff.1 Try.sizeBld
  have hn : (binOp .neq 52 (.pointer (some ⟨b, 0, none⟩)) (.pointer (some ⟨b, 0, none⟩))).run Try.prog w = .ok (.bool false) w := Lib.run_neq_ptr_same w _ Try.underlying52 hj
  go_enter Try.func27, Try.ntmps27
  go_wp2
  go_end0
  exact ⟨rfl, rfl⟩

set_option maxHeartbeats 1000000 in
set_option maxRecDepth 100000 in
theorem cc_fresh (b : Nat) (w : World) (h0 : w.cell? ⟨b, 0, none⟩ = some (.pointer none)) (hsh : w.shape? b = some (55, 2)) (hfz : w.frozen? ⟨b, 0, none⟩ = false) :
    Calls Try.prog 27 #[.pointer (some ⟨b, 0, none⟩)] w fun e w' => e = .returned (.tuple #[]) ∧ w' = w.setCell ⟨b, 0, none⟩ (.pointer (some ⟨b, 0, none⟩)) := by
  obtain ⟨j, hj, hjs⟩ := Option.map_eq_some_iff.1 Try.sizeBld
  have hc1 : (convert 52 61 (.pointer (some ⟨b, 0, none⟩))).run Try.prog w = .ok (.pointer (some ⟨b, 0, none⟩)) w := Lib.run_to_unsafe w ⟨b, 0, none⟩ Try.underlying52 Try.underlying61 hj (by rw [hjs]; decide) hsh (Nat.zero_lt_succ 1)
  have hc2 : (convert 61 52 (.pointer (some ⟨b, 0, none⟩))).run Try.prog w = .ok (.pointer (some ⟨b, 0, none⟩)) w := Lib.run_from_unsafe w ⟨b, 0, none⟩ Try.underlying61 Try.underlying52 hj hsh Try.liesBld
  have hne : (callFunc 28 #[.pointer (some ⟨b, 0, none⟩)]).run Try.prog w = .ok (.value (.pointer (some ⟨b, 0, none⟩))) w := by
    rw [run_callFunc_extern Try.func28 (by kernel_rfl) (by kernel_rfl) (by kernel_rfl) (e := Extern.AbiNoEscape.same) (by kernel_rfl), Lib.run_noEscape]
    rfl
  go_enter Try.func27, Try.ntmps27
  go_wp2
  go_end0
  exact ⟨rfl, rfl⟩

/-- copyCheck, of a builder of the call's own. -/
theorem cc_any (B b : Nat) (bs : List Value) (w : World) (h : Lib.IsBuilder 55 5 B b bs w) :
    Calls Try.prog 27 #[.pointer (some ⟨b, 0, none⟩)] w fun e w' => e = .returned (.tuple #[]) ∧ Lib.BuilderAt 55 5 B b (.pointer (some ⟨b, 0, none⟩)) bs w' ∧ Below B w w' := by
  rcases h with h | h
  · refine (cc_fresh b w h.cell0 h.shape h.frozen0).mono fun e w' ⟨he, hw⟩ => ?_
    subst hw
    exact ⟨he, h.used _, (Below.refl B w).setCell (p := ⟨b, 0, none⟩) h.1 _⟩
  · refine (cc_used b w h.cell0).mono fun e w' ⟨he, hw⟩ => ?_
    subst hw
    exact ⟨he, h, Below.refl B _⟩

/-- what a new row of one cell holds -/
theorem new_one (w : World) (u : Value) (e : TypeId) (j : Nat) (x : Value) (h : [u][j]? = some x) : (w.alloc (.cells #[u] e)).cell? ((⟨w.heap.size, 0, none⟩ : Addr).add j) = some x := by
  rw [Addr.add_lit]
  refine (World.cell?_alloc_new w _ _ _).trans ?_
  simpa using h

/-- A builder of the call's own, whose buffer was grown by one byte (which lay in a new block) and laid into it. -/
theorem bld_after {B b : Nat} {p v v' u : Value} {bs : List Value} {w w2 : World} {o : Obj} (hB : B ≤ b) (hBw : B ≤ w.heap.size) (hbk : w.heap[b]? = some (.cells #[p, v] 55 (0, 0))) (hown : w.ownsRow B 5 1 v bs.length bs) (hne : v.ownBlock ≠ some b)
    (hg : (w.alloc o).grownBy w2 v.ownBlock) (hown' : w2.ownsRow B 5 1 v' (bs.length + 1) (bs ++ [u])) :
    w2.cell? ⟨b, 1, none⟩ = some v ∧ w2.frozen? ⟨b, 1, none⟩ = false ∧ Lib.BuilderAt 55 5 B b p (bs ++ [u]) (w2.setCell ⟨b, 1, none⟩ v') ∧ Below B w (w2.setCell ⟨b, 1, none⟩ v') := by
  have hlt : b < w.heap.size := (Array.getElem?_eq_some_iff.1 hbk).1
  have hsz : (w.alloc o).heap.size = w.heap.size + 1 := by simp
  have hb2 : w2.heap[b]? = some (.cells #[p, v] 55 (0, 0)) := by
    refine (hg.block b (by omega) (Ne.symm hne)).trans ?_
    exact (Below.heap_alloc w o b hlt).trans hbk
  have hbel : Below B w w2 := ((Below.refl B w).alloc hBw o).grown hg (by omega) (fun k hk => (hown.lt k hk).1)
  have hl : (bs ++ [u]).length = bs.length + 1 := by simp
  exact ⟨by rw [Lib.cell_of_heap hb2]; rfl, Lib.frozen_of_heap hb2 1, Lib.BuilderAt.put hB hb2 (by rw [hl]; exact hown') (by decide), hbel.setCell (p := ⟨b, 1, none⟩) hB _⟩

set_option maxHeartbeats 2000000 in
set_option maxRecDepth 100000 in
/-- WriteByte: the byte stands behind those that the builder had. -/
theorem wb_any (B b : Nat) (bs : List Value) (c : Int) (w : World) (h : Lib.IsBuilder 55 5 B b bs w) (hlen : bs.length ≤ 1000000) (hBw : B ≤ w.heap.size) :
    Calls Try.prog 25 #[.pointer (some ⟨b, 0, none⟩), .int .u8 c] w fun e w' => e = .returned .nilIface ∧ Lib.BuilderAt 55 5 B b (.pointer (some ⟨b, 0, none⟩)) (bs ++ [.int .u8 c]) w' ∧ Below B w w' := by
  obtain ⟨i0, hi, hz0, hz1, hz2⟩ := info_parts Try.infoU8
  have hcc := cc_any B b bs w h
  have h63 : bs.length + 1 ≤ maxLen := by unfold maxLen; omega
  go_enter Try.func25, Try.ntmps25
  go_wp2_with fail
  refine hcc.mono ?_
  rintro e w1 ⟨rfl, ⟨hB, v, hbk, hown, hne⟩, hb1⟩
  have hs1 := hb1.size
  have c1 : w1.cell? ⟨b, 1, none⟩ = some v := by rw [Lib.cell_of_heap hbk]; rfl
  have hown1 := hown.alloc (.cells #[.int .u8 c] 5)
  have hB1 : B ≤ (w1.alloc (.cells #[.int .u8 c] 5)).heap.size := by simp; omega
  go_wp2_with (at_builtin; refine wpList_append_own _ rfl (.tmp 11) (.tmp 13) 53 rfl B 5 i0 (.int .u8 0) 1 1 Try.underlying53 hi hz0 hz1 hz2 rfl Nat.one_pos v bs.length bs rfl hown1 _ 1 1 [.int .u8 c] rfl rfl (new_one w1 _ _) (fun u hu => by rw [List.mem_singleton.1 hu]; rfl) h63 (by omega) hB1 ?_)
  intro v' w2 hown' hgrow hnil
  obtain ⟨d1, f1, hput, hbel⟩ := bld_after hB (by omega) hbk hown hne hgrow hown'
  have HP : Hid (Lib.BuilderAt 55 5 B b (.pointer (some ⟨b, 0, none⟩)) (bs ++ [.int .u8 c]) (w2.setCell ⟨b, 1, none⟩ v') ∧ Below B w (w2.setCell ⟨b, 1, none⟩ v')) := ⟨hput, hb1.trans hbel⟩
  rcases hown'.2 with ⟨-, h0⟩ | ⟨g, cap, cur, rfl, -⟩
  · exact absurd h0 (Nat.succ_ne_zero _)
  · clear hput hbel hown hown' hgrow hbk hnil hown1
    go_wp2
    go_ret
    exact ⟨rfl, HP.out⟩

set_option maxHeartbeats 1000000 in
set_option maxRecDepth 100000 in
/-- String: the bytes that were written. -/
theorem bstr_any (B b : Nat) (p : Value) (l : List UInt8) (w : World) (h : Lib.BuilderAt 55 5 B b p (Lib.byteCells l) w) (hBw : B ≤ w.heap.size) :
    Calls Try.prog 26 #[.pointer (some ⟨b, 0, none⟩)] w fun e w' => e = .returned (.string ⟨l.toArray⟩) ∧ Below B w w' := by
  have hlt := h.lt
  obtain ⟨hB, v, hbk, hown, hne⟩ := h
  have c1 : w.cell? ⟨b, 1, none⟩ = some v := by rw [Lib.cell_of_heap hbk]; rfl
  rw [Lib.byteCells_length] at hown
  rcases hown.2 with ⟨rfl, hz⟩ | ⟨g, cap, cur, rfl, hbg, hg, hnc, hcm, hcs, htake⟩
  · have hl : l = [] := List.eq_nil_of_length_eq_zero hz
    subst hl
    have hUS : ∀ w', (Builtin.unsafeString_ #[60, 3] 9 #[.pointer none, .int .i64 0]).run Try.prog w' = .ok (.string .empty) w' := fun w' => Lib.run_unsafeString_none w' _ _ _ _
    have hSD : ∀ w', (Builtin.unsafeSliceData_ #[53] 60 #[.slice none 0 0]).run Try.prog w' = .ok (.pointer none) w' := fun w' => rfl
    go_enter Try.func26, Try.ntmps26
    go_wp2
    go_region
    all_goals (go_wp2; go_ret; exact ⟨rfl, (Below.refl B w).drew⟩)
  · by_cases hl0 : l = []
    · subst hl0
      have hUS : ∀ w' q, (Builtin.unsafeString_ #[60, 3] 9 #[.pointer q, .int .i64 0]).run Try.prog w' = .ok (.string .empty) w' := fun w' q => Lib.run_unsafeString_none w' _ _ _ q
      have hg' : w.drew.heap[g]? = some (.cells cur 5 (0, 0)) := hg
      simp only [List.length_nil] at c1
      by_cases hc0 : cap = 0
      · subst hc0
        have hSD : (Builtin.unsafeSliceData_ #[53] 60 #[.slice (some ⟨g, 0, none⟩) 0 0]).run Try.prog w.drew = .ok (.pointer (some ⟨w.drew.heap.size, 0, none⟩)) (w.drew.alloc (.view ⟨g, 0, none⟩ 5)) :=
          Lib.run_unsafeSliceData_zero w.drew _ _ 5 Try.underlying60 ⟨g, 0, none⟩ 0 (5, cur.size) (by simp [World.shape?, hg'])
        have c2 : ∀ o, (w.alloc o).cell? ⟨b, 1, none⟩ = some (.slice (some ⟨g, 0, none⟩) 0 0) := fun o => by
          rw [Below.cell (p := ⟨b, 1, none⟩) ((Grow.refl w).alloc o) hlt]; exact c1
        have hbel : ∀ o, Below B w ((w.alloc o).drew) := fun o => ((Below.refl B w).alloc hBw o).drew
        clear hown hbk htake hcs hg hg' hcm
        go_enter Try.func26, Try.ntmps26
        go_wp2
        go_region
        all_goals (go_wp2; go_ret; exact ⟨rfl, hbel _⟩)
      · have hSD : ∀ w', (Builtin.unsafeSliceData_ #[53] 60 #[.slice (some ⟨g, 0, none⟩) 0 cap]).run Try.prog w' = .ok (.pointer (some ⟨g, 0, none⟩)) w' := fun w' => Lib.run_unsafeSliceData_row _ _ _ _ _ _ hc0
        clear hown hbk htake hcs hg hg' hcm hc0
        go_enter Try.func26, Try.ntmps26
        go_wp2
        go_region
        all_goals (go_wp2; go_ret; exact ⟨rfl, (Below.refl B w).drew⟩)
    · have hlp : 0 < l.length := List.length_pos_iff.2 hl0
      unfold maxLen at hcm
      have hSD : (Builtin.unsafeSliceData_ #[53] 60 #[.slice (some ⟨g, 0, none⟩) l.length cap]).run Try.prog w.drew = .ok (.pointer (some ⟨g, 0, none⟩)) w.drew := Lib.run_unsafeSliceData_row _ _ _ _ _ _ (by omega)
      have hUS : (Builtin.unsafeString_ #[60, 3] 9 #[.pointer (some ⟨g, 0, none⟩), .int .i64 l.length]).run Try.prog w.drew = .ok (.string ⟨l.toArray⟩) (w.drew.freeze ⟨g, 0, none⟩ l.length) :=
        Lib.run_unsafeString_row w.drew 60 3 9 5 Try.underlying60 Try.cellsU8 g cur.size (by have hg' : w.drew.heap[g]? = some (.cells cur 5 (0, 0)) := hg; simp [World.shape?, hg']) l hl0 (by omega) (by omega)
          (fun j x hx => hown.cells (g := g) rfl j (.int .u8 x.toNat) (by simp [Lib.byteCells, hx]))
      have hfr : Below B w (w.drew.freeze ⟨g, 0, none⟩ l.length) := Lib.below_freeze (Below.drew (Below.refl B w)) (p := ⟨g, 0, none⟩) hbg _
      clear hown hbk htake hcs hg
      go_enter Try.func26, Try.ntmps26
      go_wp2
      go_region
      all_goals (go_wp2; go_ret; exact ⟨rfl, hfr⟩)
end Go.Proofs.Ythgemalikenhfaa
