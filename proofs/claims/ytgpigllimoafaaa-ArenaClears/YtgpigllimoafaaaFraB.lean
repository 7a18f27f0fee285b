/-
  The walks of a frame's Zero, Load, Bytes. Conditions: each theorem's own.
-/
import Derived.Test.YtgpigllimoafaaaFraA
namespace Go.Proofs.Ytgpigllimoafaaa
open Go.RowKit
set_option linter.unusedVariables false
set_option linter.unusedSimpArgs false

/-- thirty-two noughts -/
def z32 : List Int := List.replicate 32 0
theorem repl_getD (n j : Nat) (x : Int) (hj : j < n) : (List.replicate n x).getD j 0 = x := by simp [List.getD, hj]
theorem repl_map (n j : Nat) (x : Int) (hj : j < n) : ((List.replicate n x).map (Value.int .u8))[j]? = some (.int .u8 x) := by simp [hj]
theorem z32_len : z32.length = 32 := by simp [z32]
theorem z32_at {j : Nat} (hj : j < 32) : z32.getD j 0 = 0 := repl_getD 32 j 0 hj
theorem z32_oct : Oct z32 := fun x hx => by
  have := List.eq_of_mem_replicate hx
  omega
theorem zeroF_size : zeroF.size = 37 := by simp [zeroF]
theorem zeroF_one : zeroF.all (·.oneCell') = true := by kernel_rfl
theorem zeroF_info : (Try.prog.info? 52).map (·.size) = some zeroF.size := by kernel_rfl
theorem zeroF_list : zeroF.toList = [.bool false, .bool false, .bool false, .int .i64 0, .int .i64 0] ++ z32.map (Value.int .u8) := by
  simp [zeroF, z32]
theorem zeroF_head {j : Nat} (hj : j < 5) : zeroF.toList[j]? = ([.bool false, .bool false, .bool false, .int .i64 0, .int .i64 0] : List Value)[j]? := by
  rw [zeroF_list, List.getElem?_append_left (by simpa using hj)]
theorem zeroF_tail {j : Nat} (hj : j < 32) : zeroF.toList[5 + j]? = some (.int .u8 0) := by
  rw [zeroF_list, List.getElem?_append_right (by simp)]
  rw [show 5 + j - ([.bool false, .bool false, .bool false, .int .i64 0, .int .i64 0] : List Value).length = j by simp]
  exact repl_map 32 j 0 hj
theorem FrAt.there {w : World} {b : Nat} {u d r : Bool} {p q : Int} {bs : List Int} (h : FrAt w b u d r p q bs) : w.there b 0 zeroF.size := fun j hj => by
  rw [zeroF_size] at hj
  rw [Nat.zero_add]
  by_cases h5 : j < 5
  · obtain ⟨h1, h2⟩ := h.1.2 j (by simpa using h5)
    rw [h1]
    refine ⟨?_, h2⟩
    rw [List.getElem?_eq_getElem (by simpa using h5)]; rfl
  · rcases h.2 with ⟨e, _, e2⟩ | ⟨g, o, c, e, hb, h0, hnc, hcm, hc, ht⟩
    · injection e2 with _ e3; cases e3
    · injection e with e1 e2 e3
      injection e1 with e1
      injection e1 with eb eo
      subst eb eo e3
      have := ht (j - 5) (by omega)
      rw [show 5 + (j - 5) = j by omega] at this
      exact this
/-- cells laid as an empty frame's -/
theorem FrAt.of_range {w : World} {b : Nat} (hr : w.rangeAt b 0 zeroF.toList) (hf : ∀ j, j < 37 → w.frozen? ⟨b, j, none⟩ = false) : FrAt w b false false false 0 0 z32 := by
  have hc : ∀ j v, zeroF.toList[j]? = some v → w.cell? ⟨b, j, none⟩ = some v := fun j v hv => by have := hr j v hv; rwa [Nat.zero_add] at this
  have ht : ∀ j, j < 32 → w.cell? ⟨b, 5 + j, none⟩ = some (.int .u8 0) := fun j hj => hc _ _ (zeroF_tail hj)
  refine ⟨⟨World.block_lt_of_cell? _ _ (ht 0 (by omega)), fun j hj => ⟨?_, hf j (by simp at hj; omega)⟩⟩, .inr ⟨b, 5, 32, by rw [z32_len], rfl, by omega, by rw [z32_len]; exact Nat.le_refl _, by simp [maxLen], fun j hj => ?_, fun j hj => ⟨by rw [ht j hj]; rfl, hf _ (by omega)⟩⟩⟩
  · have hj5 : j < 5 := by simpa using hj
    obtain ⟨v, hv⟩ : ∃ v, ([.bool false, .bool false, .bool false, .int .i64 0, .int .i64 0] : List Value)[j]? = some v := ⟨_, List.getElem?_eq_getElem (by simpa using hj5)⟩
    rw [hv]
    exact hc j v (by rw [zeroF_head hj5]; exact hv)
  · rw [z32_len] at hj
    rw [ht j hj, z32_at hj]
/-- a new empty frame -/
theorem FrAt.new (w : World) (t : TypeId) : FrAt (w.alloc (.cells zeroF t)) w.heap.size false false false 0 0 z32 :=
  FrAt.of_range (fun j v hv => by rw [Nat.zero_add]; exact (World.cell?_alloc_new w _ _ j).trans (by rw [← Array.getElem?_toList]; exact hv)) (fun j _ => World.frozen?_alloc_new w _ _ _)
theorem FrAt.zeroed {w : World} {b : Nat} {u d r : Bool} {p q : Int} {bs : List Int} (h : FrAt w b u d r p q bs) : FrAt (w.setCells b 0 zeroF.toList) b false false false 0 0 z32 :=
  FrAt.of_range (World.rangeAt_setCells_same w b 0 zeroF.toList (by have := h.there; rwa [← Array.length_toList] at this)) (fun j hj => by
    rw [World.frozen?_setCells]
    have := (h.there j (by rw [zeroF_size]; exact hj)).2
    rwa [Nat.zero_add] at this)

/-- a copy into its bytes, of as many -/
theorem run_copyF {w : World} {b : Nat} {u d r : Bool} {p q : Int} {bs : List Int} (h : FrAt w b u d r p q bs) {s : Nat → Prop} {x : Value} {ys : List Int} (hrd : RdV (Value.int .u8) 0 s w x ys) (hl : ys.length = 32) :
    ∃ w', (Builtin.copy_ #[42, 42] 3 #[.slice (some ⟨b, 5, none⟩) 32 32, x]).run Try.prog w = .ok (goInt 32) w' ∧ FrAt w' b u d r p q ys ∧ UpdS (fun i => i = b) w w' := by
  obtain ⟨i0, hi, hz0, hz1, hz2⟩ := info_parts Try.info5
  have hsz : (Try.prog.info? 5).map (·.size) = some 1 := by rw [hi]; simp [hz1]
  obtain ⟨w', hrun, ho, hu⟩ := run_copyV (P := Try.prog) 42 42 3 5 Try.underlying42 hsz h.2 hrd (by rw [h.len, hl]) (oneI .u8)
  rw [hl] at hrun
  refine ⟨w', hrun, h.setB ?_ ho, hu⟩
  obtain ⟨ax, cs, rfl⟩ := hrd.shape
  obtain ⟨g, og, rfl, hqb, hcell⟩ := hrd.addr (by omega)
  have hth := h.there
  have hget : ∀ j, j < ys.length → (ys.map (Value.int .u8))[j]? = some (.int .u8 (ys.getD j 0)) := fun j hj => by
    rw [List.getElem?_map, List.getElem?_eq_getElem hj]
    simp [List.getD, List.getElem?_eq_getElem hj]
  have ht : ∀ j, j < (ys.map (Value.int .u8)).length → (w.cell? ⟨b, 5 + j, none⟩).isSome = true ∧ w.frozen? ⟨b, 5 + j, none⟩ = false := fun j hj => by
    rw [List.length_map] at hj
    have := hth (5 + j) (by rw [zeroF_size]; omega)
    rwa [Nat.zero_add] at this
  have hrun2 := run_copy_cells (P := Try.prog) w 42 42 3 5 b 5 32 32 ⟨g, og, none⟩ ys.length cs (ys.map (Value.int .u8)) Try.underlying42 hsz (by rw [List.length_map, hl]; rfl)
    (fun j u hu' => by
      have hj : j < ys.length := by
        have := (List.getElem?_eq_some_iff.1 hu').1
        simpa using this
      rw [Addr.add_lit, hcell j hj, ← hget j hj]; exact hu')
    (fun j hj => (ht j hj).1) (fun j hj => (ht j hj).2)
    (fun u hu' => by obtain ⟨y, _, rfl⟩ := List.mem_map.1 hu'; exact oneI .u8 y)
  rw [hl] at hrun2 hrun
  rw [hrun] at hrun2
  injection hrun2


set_option maxHeartbeats 1000000 in
theorem zero_any (w : World) (b : Nat) (u d r : Bool) (p q : Int) (bs : List Int) (h : FrAt w b u d r p q bs) : Calls Try.prog 51 #[.pointer (some ⟨b, 0, none⟩)] w fun e w' => e = .returned (.tuple #[]) ∧ FrAt w' b false false false 0 0 z32 ∧ UpdS (fun i => i = b) w w' := by
  have H : Hid (FrAt (w.setCells b 0 zeroF.toList) b false false false 0 0 z32 ∧ UpdS (fun i => i = b) w (w.setCells b 0 zeroF.toList)) := ⟨h.zeroed, updS_cells b 0 _ w⟩
  have HT : Hid (w.there b 0 zeroF.size) := h.there
  clear h
  go_enter Try.func51, Try.ntmps51
  go_wp2_with (refine wpList_store_mid rfl 52 (.tmp 4) (.tmp 3) rfl b 0 zeroF rfl rfl HT.out zeroF_info zeroF_one ?_)
  generalize w.setCells b 0 zeroF.toList = w1 at H
  go_wp2
  go_end0
  exact ⟨rfl, H.out.1, H.out.2⟩
end Go.Proofs.Ytgpigllimoafaaa
