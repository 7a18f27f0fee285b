/-
  The walk of Read: of a superblock's bytes, and of bytes with another check. Conditions: each theorem's own.
-/
import Derived.Test.YtlcphhlimcnnaaaSupRd
namespace Go.Proofs.Ytlcphhlimcnnaaa
open Go.RowKit
set_option linter.unusedVariables false
set_option linter.unusedSimpArgs false

set_option maxHeartbeats 4000000 in
theorem sread_bad (v : Value) (zs : List Int) (B : Nat) (w : World) (h : Rd .u8 B w v zs) (ho : Oct zs) (hl : zs.length ≤ 1000000) (ht : taken zs = ([], 9)) :
    Calls Try.prog 16 #[v] w fun e w' => e = .returned (.tuple #[.agg #[.int .i64 0, .int .i64 0, .int .i64 0, .int .i64 0, .slice none 0 0], .int .i64 9]) ∧ Grow w w' := by
  have X0 : Hid (VarAt (w.alloc (.cells #[.int .i64 (0 : Int), .int .i64 (0 : Int), .int .i64 (0 : Int), .int .i64 (0 : Int), .slice none 0 0] 36)) w.heap.size [.int .i64 (0 : Int), .int .i64 (0 : Int), .int .i64 (0 : Int), .int .i64 (0 : Int), .slice none 0 0] ∧ Grow w (w.alloc (.cells #[.int .i64 (0 : Int), .int .i64 (0 : Int), .int .i64 (0 : Int), .int .i64 (0 : Int), .slice none 0 0] 36))) := ⟨VarAt.new w [.int .i64 (0 : Int), .int .i64 (0 : Int), .int .i64 (0 : Int), .int .i64 (0 : Int), .slice none 0 0] _, (Grow.refl w).alloc _⟩
  have hk := fun w' (g : Grow w w') => take_any v zs w.heap.size w' (h.size.below g) ho hl
  rw [ht] at hk
  simp only at hk
  clear ht ho hl h
  go_enter Try.func16, Try.ntmps16
  go_wp2_with fail
  refine (hk _ X0.out.2).mono ?_
  rintro e w1 ⟨v1, rfl, ho1, g1⟩
  have Y : Hid (VarAt w1 w.heap.size [.int .i64 (0 : Int), .int .i64 (0 : Int), .int .i64 (0 : Int), .int .i64 (0 : Int), .slice none 0 0] ∧ Grow w w1) := ⟨X0.out.1.grow g1, X0.out.2.trans g1⟩
  obtain ⟨⟨m0, m1, m2, m3, m4⟩, f0, f1, f2, f3, f4⟩ := Y.out.1.five
  clear X0 g1 ho1
  go_wp2
  have hU := upd_five w1 w.heap.size (.int .i64 0) (.int .i64 0) (.int .i64 0) (.int .i64 0) (.slice none 0 0)
  exact bodyPost_ret_by (results_cell_tmp rfl _ _ _ (.agg #[.int .i64 0, .int .i64 0, .int .i64 0, .int .i64 0, .slice none 0 0]) rfl (load_Sup w.heap.size 0 0 0 0 _ _ (Y.out.1.set5 _ _ _ _ _) rfl)) rfl ⟨rfl, UpdS.new Y.out.2 hU (fun i hi => by omega)⟩

set_option maxHeartbeats 4000000 in
theorem sread_good (v : Value) (ep fr dp se : Int) (ps : List Pt) (B : Nat) (w : World) (h : Rd .u8 B w v (sbytes ep fr dp se ps)) (hm : mayS ep fr dp se ps = true) (hep : W64 ep) (hfr : W64 fr) (hdp : W64 dp) (hse : W64 se) (hok : ∀ x ∈ ps, x.Ok) (hl : ps.length ≤ 16) :
    Calls Try.prog 16 #[v] w fun e w' => ∃ v', e = .returned (.tuple #[.agg #[.int .i64 ep, .int .i64 fr, .int .i64 dp, .int .i64 se, v'], .int .i64 0]) ∧ RdP (fun i => w.heap.size ≤ i) w' v' ps ∧ Grow w w' := by
  have X0 : Hid (VarAt (w.alloc (.cells #[.int .i64 (0 : Int), .int .i64 (0 : Int), .int .i64 (0 : Int), .int .i64 (0 : Int), .slice none 0 0] 36)) w.heap.size [.int .i64 (0 : Int), .int .i64 (0 : Int), .int .i64 (0 : Int), .int .i64 (0 : Int), .slice none 0 0] ∧ Grow w (w.alloc (.cells #[.int .i64 (0 : Int), .int .i64 (0 : Int), .int .i64 (0 : Int), .int .i64 (0 : Int), .slice none 0 0] 36))) := ⟨VarAt.new w [.int .i64 (0 : Int), .int .i64 (0 : Int), .int .i64 (0 : Int), .int .i64 (0 : Int), .slice none 0 0] _, (Grow.refl w).alloc _⟩
  have hk := fun w' (g : Grow w w') => take_any v (sbytes ep fr dp se ps) w.heap.size w' (h.size.below g) (oct_sbytes _ _ _ _ _) (by rw [sbytes_length]; omega)
  rw [sbytes_taken] at hk
  simp only at hk
  have hsz : (leAll (nums ep fr dp se ps)).length ≤ 1000000 := by rw [leAll_length, nums_length]; omega
  clear h
  go_enter Try.func16, Try.ntmps16
  go_wp2_with fail
  refine (hk _ X0.out.2).mono ?_
  rintro e w1 ⟨v1, rfl, ho1, g1⟩
  have Y1 : Hid (VarAt w1 w.heap.size [.int .i64 (0 : Int), .int .i64 (0 : Int), .int .i64 (0 : Int), .int .i64 (0 : Int), .slice none 0 0] ∧ Grow w w1) := ⟨X0.out.1.grow g1, X0.out.2.trans g1⟩
  clear X0 g1 hk
  go_wp2_with fail
  refine (read_any _ (leAll (nums ep fr dp se ps)) _ _ ho1.rd hsz).mono ?_
  rintro e w2 ⟨b, rfl, hr2, g2, hb2⟩
  have HB : Hid (w.heap.size < b) := by have h1 := Y1.out.1.lt; show w.heap.size < b; omega
  have Y2 : Hid (VarAt w2 w.heap.size [.int .i64 (0 : Int), .int .i64 (0 : Int), .int .i64 (0 : Int), .int .i64 (0 : Int), .slice none 0 0] ∧ Grow w w2) := ⟨Y1.out.1.grow g2, Y1.out.2.trans g2⟩
  have hr2' : RdrAt w2 b (fun k => w1.heap.size ≤ k ∧ k < b) (leAll (1 :: ep :: fr :: dp :: se :: (ps.length : Int) :: pnums ps)) 0 := hr2
  clear g2 hb2 ho1 hr2 Y1
  go_wp2_with fail
  refine (intR_cons b _ _ 0 _ hr2' ⟨by omega, by omega⟩).mono ?_
  rintro e w3 ⟨rfl, hr3, hu3⟩
  have Y3 : Hid (VarAt w3 w.heap.size [.int .i64 (0 : Int), .int .i64 (0 : Int), .int .i64 (0 : Int), .int .i64 (0 : Int), .slice none 0 0] ∧ Grow w w3) := ⟨Y2.out.1.upd hu3 (by have := HB.out; omega), UpdS.new Y2.out.2 hu3 (fun i hi => by have := HB.out; omega)⟩
  clear hr2' hu3 Y2
  go_wp2_with fail
  refine (fields_any b ep fr dp se ps 0 _ hr3 hep hfr hdp hse hok hl).mono ?_
  rintro e w4 ⟨v4, rfl, ho4, hr4, hu4⟩
  have hR4 : RdP (fun i => w.heap.size < i) w4 v4 ps := RdS.mono ho4.rd (fun i _ hi => by have := Y3.out.1.lt; omega)
  obtain ⟨a4, c4, rfl⟩ := ho4.shape
  have Y4 : Hid (VarAt (w4.alloc (.cells #[.int .i64 ep, .int .i64 fr, .int .i64 dp, .int .i64 se, .slice a4 ps.length c4] 36)) w.heap.size [.int .i64 (0 : Int), .int .i64 (0 : Int), .int .i64 (0 : Int), .int .i64 (0 : Int), .slice none 0 0] ∧ VarAt (w4.alloc (.cells #[.int .i64 ep, .int .i64 fr, .int .i64 dp, .int .i64 se, .slice a4 ps.length c4] 36)) w4.heap.size [.int .i64 ep, .int .i64 fr, .int .i64 dp, .int .i64 se, .slice a4 ps.length c4] ∧ RdP (fun i => w.heap.size < i) (w4.alloc (.cells #[.int .i64 ep, .int .i64 fr, .int .i64 dp, .int .i64 se, .slice a4 ps.length c4] 36)) (.slice a4 ps.length c4) ps ∧ RdrAt (w4.alloc (.cells #[.int .i64 ep, .int .i64 fr, .int .i64 dp, .int .i64 se, .slice a4 ps.length c4] 36)) b (fun k => w1.heap.size ≤ k ∧ k < b) [] 0 ∧ Grow w (w4.alloc (.cells #[.int .i64 ep, .int .i64 fr, .int .i64 dp, .int .i64 se, .slice a4 ps.length c4] 36)) ∧ w.heap.size < w4.heap.size) :=
    ⟨(Y3.out.1.upd hu4 (by have := HB.out; omega)).old _, VarAt.new w4 [.int .i64 ep, .int .i64 fr, .int .i64 dp, .int .i64 se, .slice a4 ps.length c4] _, RdS.grow hR4 ((Grow.refl _).alloc _), hr4.grow ((Grow.refl _).alloc _), (UpdS.new Y3.out.2 hu4 (fun i hi => by have := HB.out; omega)).alloc _, Nat.lt_of_lt_of_le Y3.out.1.lt hu4.size⟩
  clear ho4 hr4 hu4 Y3 hR4 hr3
  go_wp2_with fail
  generalize w4.alloc (.cells #[.int .i64 ep, .int .i64 fr, .int .i64 dp, .int .i64 se, .slice a4 ps.length c4] 36) = w5 at Y4 ⊢
  generalize w4.heap.size = b7 at Y4 ⊢
  have hend : Calls Try.prog 34 #[.pointer (some ⟨b, 0, none⟩)] w5 fun e w' => e = .returned (.int .i64 0) ∧ w5 = w' := endR_any b [] 0 _ Y4.out.2.2.2.1
  refine hend.mono ?_
  rintro e w6 ⟨rfl, rfl⟩
  obtain ⟨⟨m0, m1, m2, m3, m4⟩, -⟩ := Y4.out.2.1.five
  have hmay := smay_any ep fr dp se _ ps w5 Y4.out.2.2.1
  rw [hm] at hmay
  go_wp2_with fail
  refine hmay.mono ?_
  rintro e w6 ⟨rfl, g6⟩
  have Y5 : Hid (VarAt w6 w.heap.size [.int .i64 (0 : Int), .int .i64 (0 : Int), .int .i64 (0 : Int), .int .i64 (0 : Int), .slice none 0 0] ∧ VarAt w6 b7 [.int .i64 ep, .int .i64 fr, .int .i64 dp, .int .i64 se, .slice a4 ps.length c4] ∧ RdP (fun i => w.heap.size < i) w6 (.slice a4 ps.length c4) ps ∧ Grow w w6 ∧ w.heap.size < b7) := ⟨Y4.out.1.grow g6, Y4.out.2.1.grow g6, RdS.grow Y4.out.2.2.1 g6, Y4.out.2.2.2.2.1.trans g6, Y4.out.2.2.2.2.2⟩
  clear Y4 g6 hmay m0 m1 m2 m3 m4
  obtain ⟨⟨m0, m1, m2, m3, m4⟩, -⟩ := Y5.out.2.1.five
  obtain ⟨⟨n0, n1, n2, n3, n4⟩, f0, f1, f2, f3, f4⟩ := Y5.out.1.five
  go_wp2
  have hU := upd_five w6 w.heap.size (.int .i64 ep) (.int .i64 fr) (.int .i64 dp) (.int .i64 se) (.slice a4 ps.length c4)
  exact bodyPost_ret_by (results_cell_tmp rfl _ _ _ (.agg #[.int .i64 ep, .int .i64 fr, .int .i64 dp, .int .i64 se, .slice a4 ps.length c4]) rfl (load_Sup w.heap.size ep fr dp se _ _ (Y5.out.1.set5 _ _ _ _ _) rfl)) rfl ⟨_, rfl, RdS.mono (RdS.upd Y5.out.2.2.1 hU (fun i _ hi => by omega)) (fun i _ hi => by omega), UpdS.new Y5.out.2.2.2.1 hU (fun i hi => by omega)⟩
end Go.Proofs.Ytlcphhlimcnnaaa
