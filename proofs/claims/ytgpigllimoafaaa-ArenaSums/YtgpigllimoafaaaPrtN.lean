/-
  A frame as a value of thirty-seven cells; the walks of a partition's New, At, Dirty, Clear. Conditions: each theorem's own.
-/
import Derived.Test.YtgpigllimoafaaaPrtR
import Derived.Laws.MakeOwn
import Derived.Lib.SliceRun
namespace Go.Proofs.Ytgpigllimoafaaa
open Go.RowKit
set_option linter.unusedVariables false
set_option linter.unusedSimpArgs false

/-- a frame's cells, all of them -/
def FS.cells (s : FS) : List Value := [.bool s.u, .bool s.d, .bool s.r, .int .i64 s.p, .int .i64 s.q] ++ s.bs.map (Value.int .u8)
def FS.arr (s : FS) : Array Value := s.cells.toArray
theorem FS.cells_len {s : FS} (h : s.bs.length = 32) : s.cells.length = 37 := by simp [FS.cells, h]
theorem FS.cells_one (s : FS) : ∀ v ∈ s.cells, v.oneCell' = true := fun v hv => by
  rcases List.mem_append.1 hv with h | h
  · simp at h; rcases h with h | h | h | h | h <;> (subst h; rfl)
  · obtain ⟨x, _, rfl⟩ := List.mem_map.1 h; rfl
theorem FS.arr_size {s : FS} (h : s.bs.length = 32) : s.arr.size = 37 := by simp [FS.arr, FS.cells_len h]
theorem empty_arr : FS.empty.arr = zeroF := by
  unfold FS.arr FS.cells
  rw [← Array.toList_inj, zeroF_list]; rfl
theorem info37 {s : FS} (h : s.bs.length = 32) : (Try.prog.info? 52).map (·.size) = some s.cells.length := by
  rw [FS.cells_len h, zeroF_info, zeroF_size]
theorem info37a {s : FS} (h : s.bs.length = 32) : (Try.prog.info? 52).map (·.size) = some s.arr.size := by
  rw [FS.arr_size h, zeroF_info, zeroF_size]
theorem FrX.len {w : World} {b o : Nat} {s : FS} (h : FrX w b o s) : s.bs.length = 32 := FrO.len h
theorem FrX.range {w : World} {b o : Nat} {s : FS} (h : FrX w b o s) : w.rangeAt b o s.cells := fun j v hv => by
  have hl := h.len
  have hj : j < 37 := by
    have := (List.getElem?_eq_some_iff.1 hv).1
    rwa [FS.cells_len hl] at this
  unfold FS.cells at hv
  by_cases h5 : j < 5
  · rw [List.getElem?_append_left (by simpa using h5)] at hv
    rw [(h.1.2 j (by simpa using h5)).1]; exact hv
  · rw [List.getElem?_append_right (by simp; omega)] at hv
    obtain ⟨b', o', ea, -, hc⟩ := h.2.rd.addr (by rw [hl]; omega)
    injection ea with ea
    injection ea with eb eo
    subst eb eo
    have := hc (j - 5) (by rw [hl]; omega)
    rw [show o + 5 + (j - 5) = o + j by omega] at this
    rw [this, ← hv]
    simp only [List.length_cons, List.length_nil, List.getElem?_map, List.getElem?_eq_getElem (show j - 5 < s.bs.length by omega), Option.map_some, List.getD, Option.getD_some]
/-- cells that lie as a frame's do -/
theorem FrX.of_cells {w : World} {b o : Nat} {s : FS} (hl : s.bs.length = 32) (hr : w.rangeAt b o s.cells) (hf : ∀ j, j < 37 → w.frozen? ⟨b, o + j, none⟩ = false) : FrX w b o s := by
  have ht : ∀ j, j < 32 → w.cell? ⟨b, o + 5 + j, none⟩ = some (.int .u8 (s.bs.getD j 0)) := fun j hj => by
    rw [Nat.add_assoc]
    refine hr _ _ ?_
    unfold FS.cells
    rw [List.getElem?_append_right (by simp)]
    simp only [List.length_cons, List.length_nil]
    rw [show 5 + j - (0 + 1 + 1 + 1 + 1 + 1) = j by omega, List.getElem?_map, List.getElem?_eq_getElem (show j < s.bs.length by omega)]
    simp [List.getD, List.getElem?_eq_getElem (show j < s.bs.length by omega)]
  refine ⟨⟨World.block_lt_of_cell? _ _ (ht 0 (by omega)), fun j hj => ⟨?_, hf j (by simp at hj; omega)⟩⟩, .inr ⟨b, o + 5, 32, by rw [hl], rfl, by omega, by rw [hl]; exact Nat.le_refl _, by simp [maxLen], fun j hj => ht j (by omega), fun j hj => ⟨by rw [ht j hj]; rfl, by rw [Nat.add_assoc]; exact hf _ (by omega)⟩⟩⟩
  have hj5 : j < 5 := by simpa using hj
  obtain ⟨v, hv⟩ : ∃ v, ([.bool s.u, .bool s.d, .bool s.r, .int .i64 s.p, .int .i64 s.q] : List Value)[j]? = some v := ⟨_, List.getElem?_eq_getElem (by simpa using hj5)⟩
  rw [hv]
  exact hr j v (by unfold FS.cells; rw [List.getElem?_append_left (by simpa using hj5)]; exact hv)
/-- a new variable with a frame's cells -/
theorem FrX.new {s : FS} (hl : s.bs.length = 32) (w : World) (t : TypeId) : FrX (w.alloc (.cells s.arr t)) w.heap.size 0 s :=
  FrX.of_cells hl (fun j v hv => by rw [Nat.zero_add]; exact (World.cell?_alloc_new w _ _ j).trans (by unfold FS.arr; rw [List.getElem?_toArray]; exact hv)) (fun j _ => World.frozen?_alloc_new w _ _ _)
theorem FrX.at0 {w : World} {b : Nat} {s : FS} (h : FrX w b 0 s) : FrAt w b s.u s.d s.r s.p s.q s.bs := FrO.at h
theorem FrX.there {w : World} {b o : Nat} {s : FS} (h : FrX w b o s) : w.there b o 37 := by
  have := FrO.there h
  rwa [zeroF_size] at this
/-- a frame stored over another one -/
theorem FrX.put {w : World} {b o : Nat} {s s' : FS} (h : FrX w b o s) (hl : s'.bs.length = 32) : FrX (w.setCells b o s'.cells) b o s' :=
  FrX.of_cells hl (World.rangeAt_setCells_same w b o s'.cells (by rw [FS.cells_len hl]; exact h.there)) (fun j hj => by
    rw [World.frozen?_setCells]; exact (h.there j hj).2)
theorem load37 {w : World} {b o : Nat} {s : FS} (h : FrX w b o s) : (loadVar 52 ⟨b, o, none⟩).run Try.prog w = .ok (.agg s.arr) w :=
  run_loadVar_mid (P := Try.prog) w b o 52 s.cells _ h.range Try.underlying52 rfl (info37 h.len)

/-- which frame At tells -/
def atL (i : Int) (L : List FS) : FS := if inB i L = true then L.getD i.toNat FS.empty else FS.empty
theorem atL_yes {m : Nat} {L : List FS} (hm : m < L.length) : atL (m : Int) L = L.getD m FS.empty := by
  unfold atL; rw [if_pos (inB_yes (in_yes hm))]; simp only [Int.toNat_natCast]
theorem atL_no {i : Int} {L : List FS} (hm : ¬ inL i L) : atL i L = FS.empty := if_neg (inB_not hm)

theorem made_size (n : Nat) : (madeCells zeroF (n * 37)).size = n * 37 := size_madeCells _ _
theorem made_at {n i j : Nat} (hi : i < n) (hj : j < 37) : (madeCells zeroF (n * 37))[i * 37 + j]? = zeroF[j]? := by
  have hlt : i * 37 + j < n * 37 := by omega
  rw [Array.getElem?_eq_getElem (by rw [made_size]; exact hlt)]
  simp only [madeCells, Array.getElem_map, Array.getElem_range, zeroF_size]
  rw [show (i * 37 + j) % 37 = j by omega, Array.getElem?_eq_getElem (by rw [zeroF_size]; exact hj)]
  simp [zeroF_size, hj]
theorem made_frame {w : World} {b o n : Nat} (hc : ∀ j, j < n * 37 → w.cell? ⟨b, o + j, none⟩ = (madeCells zeroF (n * 37))[j]?) (hf : ∀ j, j < n * 37 → w.frozen? ⟨b, o + j, none⟩ = false) {i : Nat} (hi : i < n) : FrX w b (o + i * 37) FS.empty :=
  FrO.of_range (fun j v hv => by
    have hj : j < 37 := by
      have := (List.getElem?_eq_some_iff.1 hv).1
      rwa [Array.length_toList, zeroF_size] at this
    rw [Nat.add_assoc, hc _ (by omega), made_at hi hj, ← Array.getElem?_toList]; exact hv) (fun j hj => by rw [Nat.add_assoc]; exact hf _ (by omega))
theorem repl_at {n i : Nat} (hi : i < n) : (List.replicate n FS.empty).getD i FS.empty = FS.empty := by simp [List.getD, hi]
theorem infoFR : (Try.prog.info? 52).map (fun i => (i.zero, i.size, i.bytes)) = some (some (.agg zeroF), 37, 56) := by kernel_rfl
theorem repl_ok {n : Nat} (h0 : 0 < n) (h : n ≤ 64) : PtOk (List.replicate n FS.empty) 0 :=
  ⟨fun s hs => by rw [List.eq_of_mem_replicate hs]; exact FS.empty_ok, by rw [List.length_replicate]; exact h0, by rw [List.length_replicate]; exact h⟩

set_option maxHeartbeats 1000000 in
theorem new_no (n : Int) (w : World) (hn : ¬ (1 ≤ n ∧ n ≤ 64)) : Calls Try.prog 33 #[.int .i64 n] w fun e w' => e = .returned (.tuple #[.pointer none, .int .i64 1]) ∧ w = w' := by
  by_cases h1 : n < 1
  · clear hn
    go_enter Try.func33, Try.ntmps33
    go_wp2
    go_ret2
    exact ⟨rfl, rfl⟩
  · have h2 : 64 < n := by omega
    clear hn
    go_enter Try.func33, Try.ntmps33
    go_wp2
    go_ret2
    exact ⟨rfl, rfl⟩
set_option maxHeartbeats 1000000 in
theorem new_yes (n : Nat) (w : World) (h1 : 1 ≤ n) (h2 : n ≤ 64) : Calls Try.prog 33 #[.int .i64 n] w fun e w' => e = .returned (.tuple #[.pointer (some ⟨w.heap.size + 1, 0, none⟩), .int .i64 0]) ∧ PtO w' (w.heap.size + 1) w.heap.size 0 (List.replicate n FS.empty) 0 ∧ Grow w w' := by
  obtain ⟨i0, hi, hz0, hz1, hz2⟩ := info_parts infoFR
  have hrun := run_make (P := Try.prog) w 69 52 i0 (.agg zeroF) Try.underlying69 hi hz0 .i64 .i64 n n (by omega) (by omega) (by rw [hz2]; omega) (by omega)
  rw [hz1] at hrun
  simp only [Int.toNat_natCast] at hrun
  have hcs : (Value.agg zeroF).cells = zeroF := rfl
  rw [hcs] at hrun
  have HP : Hid (PtO ((w.alloc (.cells (madeCells zeroF (n * 37)) 52)).alloc (.cells #[.slice (some ⟨w.heap.size, 0, none⟩) n n, .int .i64 0] 71)) (w.heap.size + 1) w.heap.size 0 (List.replicate n FS.empty) 0) := by
    have g : Grow (w.alloc (.cells (madeCells zeroF (n * 37)) 52)) ((w.alloc (.cells (madeCells zeroF (n * 37)) 52)).alloc (.cells #[.slice (some ⟨w.heap.size, 0, none⟩) n n, .int .i64 0] 71)) := (Grow.refl _).alloc _
    have V := VarAt.new2 w (.cells (madeCells zeroF (n * 37)) 52) [.slice (some ⟨w.heap.size, 0, none⟩) n n, .int .i64 0] 71
    refine ⟨by rw [List.length_replicate]; exact V, by omega, by simp; omega, fun i hi => ?_⟩
    rw [List.length_replicate] at hi
    rw [repl_at hi]
    refine FrX.upd (S := fun _ => False) (made_frame (n := n) (fun j hj => ?_) (fun j hj => World.frozen?_alloc_new w _ _ _) hi) g.s (fun f => f)
    rw [Nat.zero_add]
    exact World.cell?_alloc_new w _ _ j
  have HG : Hid (Grow w ((w.alloc (.cells (madeCells zeroF (n * 37)) 52)).alloc (.cells #[.slice (some ⟨w.heap.size, 0, none⟩) n n, .int .i64 0] 71))) := ((Grow.refl w).alloc _).alloc _
  have hs : (w.alloc (.cells (madeCells zeroF (n * 37)) 52)).heap.size = w.heap.size + 1 := World.size_alloc _ _
  generalize w.alloc (.cells (madeCells zeroF (n * 37)) 52) = W1 at hrun HP HG hs
  have hn1 : ¬ (n : Int) < 1 := by omega
  have hn2 : ¬ (64 : Int) < (n : Int) := by omega
  clear hcs hi hz0 hz1 hz2
  go_enter Try.func33, Try.ntmps33
  go_wp2
  go_ret2
  exact ⟨rfl, HP.out, HG.out⟩
end Go.Proofs.Ytgpigllimoafaaa
