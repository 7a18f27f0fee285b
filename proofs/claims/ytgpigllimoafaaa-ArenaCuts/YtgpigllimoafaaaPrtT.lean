/-
  The walks of a partition's At, Dirty, Clear. Conditions: each theorem's own.
-/
import Derived.Test.YtgpigllimoafaaaPrtN
import Derived.Deep.LoopGhost
namespace Go.Proofs.Ytgpigllimoafaaa
open Go.RowKit
set_option linter.unusedVariables false
set_option linter.unusedSimpArgs false

theorem clear_run {P : Program} (w w2 : World) (t e ty : TypeId) (z : Value) (ht : P.underlying t = some (.slice e)) (hv : ∀ w, (zeroValue e).run P w = .ok z w) (a : Addr) (m c : Nat)
    (hst : (storeCells a (Builtin.zeroCells z.cells (m + 1)).toList).run P w = .ok () w2) : (Builtin.clear_ #[t] ty #[.slice (some a) (m + 1) c]).run P w = .ok (.tuple #[]) w2 := by
  simp [Builtin.clear_, run_underlying ht, hv, hst]
theorem infoTI : (Try.prog.info? 3).map (fun i => (i.zero, i.size, i.bytes)) = some (some (.int .i64 0), 1, 8) := by kernel_rfl
theorem clearF (w : World) (b o n c : Nat) (hn : 0 < n) (hc : ∀ j, j < n * 37 → (w.cell? ⟨b, o + j, none⟩).isSome = true ∧ w.frozen? ⟨b, o + j, none⟩ = false) (ty : TypeId) :
    (Builtin.clear_ #[69] ty #[.slice (some ⟨b, o, none⟩) n c]).run Try.prog w = .ok (.tuple #[]) (w.setCells b o (madeCells zeroF (n * 37)).toList) := by
  have hz : (Builtin.zeroCells (Value.agg zeroF).cells n) = madeCells zeroF (n * 37) := by
    show Builtin.zeroCells zeroF n = _
    unfold Builtin.zeroCells madeCells
    rw [zeroF_size]
  have hlen : (madeCells zeroF (n * 37)).toList.length = n * 37 := by rw [Array.length_toList, made_size]
  have h1 : ∀ v ∈ (madeCells zeroF (n * 37)).toList, v.oneCell' = true := fun v hv => by
    obtain ⟨j, hj⟩ := List.mem_iff_getElem?.1 hv
    have hj2 : j < n * 37 := by
      have := (List.getElem?_eq_some_iff.1 hj).1
      rwa [hlen] at this
    rw [Array.getElem?_toList] at hj
    have e : j = j / 37 * 37 + j % 37 := by omega
    rw [e, made_at (by omega) (by omega)] at hj
    exact (Array.all_eq_true_iff_forall_mem.1 zeroF_one) v (Array.mem_of_getElem? hj)
  have hst := run_storeCells_cells (P := Try.prog) b o (madeCells zeroF (n * 37)).toList 0 w (fun j hj => by rw [hlen] at hj; exact (hc j hj).1) (fun j hj => by rw [hlen] at hj; exact (hc j hj).2) h1
  simp only [Nat.add_zero] at hst
  obtain ⟨m, rfl⟩ : ∃ m, n = m + 1 := ⟨n - 1, by omega⟩
  rw [← hz] at hst ⊢
  exact clear_run (P := Try.prog) w _ 69 52 ty (.agg zeroF) Try.underlying69 zero_frame ⟨b, o, none⟩ m c hst


theorem PtO.cell (w : World) (P b o : Nat) (L : List FS) (h : Nat) (k : PtO w P b o L h) {j : Nat} (hj : j < L.length * 37) : (w.cell? ⟨b, o + j, none⟩).isSome = true ∧ w.frozen? ⟨b, o + j, none⟩ = false := by
  have := (k.2.2.2 (j / 37) (by omega)).there (j % 37) (by omega)
  rwa [show o + j / 37 * 37 + j % 37 = o + j by omega] at this

set_option maxHeartbeats 2000000 in
theorem at_any (w : World) (P b o : Nat) (L : List FS) (h : Nat) (k : PtO w P b o L h) (hL : L.length ≤ 64) (i : Int) : Calls Try.prog 30 #[.pointer (some ⟨P, 0, none⟩), .int .i64 i] w fun e w' => e = .returned (.agg (atL i L).arr) ∧ (atL i L).bs.length = 32 ∧ Grow w w' := by
  obtain ⟨W, hW⟩ : ∃ W, w.alloc (.cells zeroF 52) = W := ⟨_, rfl⟩
  obtain ⟨X, hX⟩ : ∃ X, w.heap.size = X := ⟨_, rfl⟩
  have g0 : Grow w W := by rw [← hW]; exact (Grow.refl w).alloc _
  have FX : FrX W X 0 FS.empty := by rw [← hW, ← hX, ← empty_arr]; exact FrX.new z32_len w 52
  have hh := has_any W P b o L h (k.grow g0) i
  have HX : Hid (FrX W X 0 FS.empty ∧ Grow w W ∧ w.heap.size = X) := ⟨FX, g0, hX⟩
  by_cases hi : inL i L
  · obtain ⟨m, rfl, hm⟩ := nat_of hi
    rw [inB_yes hi] at hh
    rw [atL_yes hm]
    have hF := (k.grow g0).2.2.2 m hm
    obtain ⟨⟨c0, -⟩, -⟩ := (k.grow g0).two
    have hle : (m : Int) < (L.length : Int) := by omega
    generalize L.getD m FS.empty = s at hF ⊢
    have HF : Hid (FrX W b (o + m * 37) s) := hF
    have HS : Hid (FrX (W.setCells X 0 s.cells) X 0 s ∧ Grow w (W.setCells X 0 s.cells) ∧ s.bs.length = 32) := ⟨FX.put hF.len, UpdS.new g0 (updS_row X 0 s.cells W) (fun i hi => by omega), hF.len⟩
    have hl37 : s.cells.length = 37 := FS.cells_len hF.len
    have hst := run_storeCells_cells (P := Try.prog) X 0 s.cells 0 W (fun j hj => by rw [hl37] at hj; exact (FX.there j hj).1) (fun j hj => by rw [hl37] at hj; exact (FX.there j hj).2) s.cells_one
    simp only [Nat.add_zero] at hst
    clear hF k hi FX g0
    go_enter Try.func30, Try.ntmps30
    go_wp2_with fail
    (try rw [zeroF_lit])
    (try rw [hW])
    (try rw [hX])
    refine hh.mono ?_
    rintro e w1 ⟨rfl, rfl⟩
    go_wp2_with (refine wpList_load_mid rfl 52 (.tmp 15) rfl b (o + m * 37) rfl s.cells _ HF.out.range Try.underlying52 rfl (info37 HS.out.2.2) ?_)
    generalize W.setCells X 0 s.cells = W2 at HS ⊢
    go_wp2
    exact bodyPost_ret_by (results_cell rfl _ _ _ _ rfl (load37 HS.out.1)) rfl ⟨rfl, HS.out.2.2, HS.out.2.1⟩
  · rw [inB_no hi] at hh
    rw [atL_no hi, empty_arr]
    have hz := zero_frame W
    have HS : Hid (FrX (W.setCells X 0 zeroF.toList) X 0 FS.empty ∧ Grow w (W.setCells X 0 zeroF.toList)) := ⟨FrO.zeroed FX, UpdS.new g0 (updS_row X 0 _ W) (fun i hi => by omega)⟩
    clear k hi FX g0
    go_enter Try.func30, Try.ntmps30
    go_wp2_with fail
    (try rw [zeroF_lit])
    (try rw [hW])
    (try rw [hX])
    refine hh.mono ?_
    rintro e w1 ⟨rfl, rfl⟩
    go_wp2_with (refine wpList_store_mid rfl 52 (.tmp 4) (.tmp 9) rfl X 0 zeroF rfl rfl (by rw [zeroF_size]; exact HX.out.1.there) zeroF_info zeroF_one ?_)
    generalize W.setCells X 0 zeroF.toList = W2 at HS ⊢
    go_wp2
    exact bodyPost_ret_by (results_cell rfl _ _ _ _ rfl (load37 HS.out.1)) rfl ⟨by rw [empty_arr], z32_len, HS.out.2⟩

set_option maxHeartbeats 2000000 in
theorem clear_any (w : World) (P b o : Nat) (L : List FS) (h : Nat) (k : PtO w P b o L h) (h0 : 0 < L.length) : Calls Try.prog 26 #[.pointer (some ⟨P, 0, none⟩)] w fun e w' => e = .returned (.tuple #[]) ∧ PtO w' P b o (List.replicate L.length FS.empty) 0 ∧ UpdS (fun i => i = P ∨ i = b) w w' := by
  obtain ⟨⟨c0, -⟩, -⟩ := k.two
  have hcell := fun j (hj : j < L.length * 37) => PtO.cell w P b o L h k hj
  have hcl := clearF w b o L.length L.length h0 hcell
  obtain ⟨W, hW⟩ : ∃ W, w.setCells b o (madeCells zeroF (L.length * 37)).toList = W := ⟨_, rfl⟩
  rw [hW] at hcl
  have hu : UpdS (fun i => i = b) w W := by rw [← hW]; exact updS_row b o _ w
  have V := k.1.upd hu k.2.1
  have HK : Hid (PtO (W.setCell ⟨P, 1, none⟩ (.int .i64 0)) P b o (List.replicate L.length FS.empty) 0 ∧ UpdS (fun i => i = P ∨ i = b) w (W.setCell ⟨P, 1, none⟩ (.int .i64 0))) := by
    refine ⟨PtO.turn (h := h) ⟨by rw [List.length_replicate]; exact V, k.2.1, Nat.lt_of_lt_of_le k.2.2.1 hu.size, fun i hi => ?_⟩ 0, (hu.mono (fun i hi => .inr hi)).trans ((upd_one W P 1 _).mono (fun i hi => .inl hi))⟩
    rw [List.length_replicate] at hi
    rw [repl_at hi]
    refine made_frame (n := L.length) (fun j hj => ?_) (fun j hj => ?_) hi
    · rw [← hW, World.cell?_setCells_in b (madeCells zeroF (L.length * 37)).toList o w (fun j hj => by rw [Array.length_toList, made_size] at hj; exact (hcell j hj).1) j (by rw [Array.length_toList, made_size]; exact hj)]
      rw [Array.getElem?_eq_getElem (by rw [made_size]; exact hj)]
      simp
    · rw [← hW, World.frozen?_setCells]; exact (hcell j hj).2
  obtain ⟨⟨-, c1⟩, -, f1⟩ := V.two
  obtain ⟨c2, f2⟩ := V.2 0 (by show 0 < 2; omega)
  simp only [List.getElem?_cons_zero] at c2
  clear k hcell hu V
  go_enter Try.func26, Try.ntmps26
  go_wp2
  go_end0
  exact ⟨rfl, HK.out⟩
end Go.Proofs.Ytgpigllimoafaaa
