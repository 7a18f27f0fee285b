/-
  The walks of Clone and the law's odd. Conditions: each theorem's own.
-/
import Derived.Test.YtlcphhlimcnnaaaCfgFew
namespace Go.Proofs.Ytlcphhlimcnnaaa
open Go.RowKit
set_option linter.unusedVariables false
set_option linter.unusedSimpArgs false

set_option maxHeartbeats 4000000 in
theorem clone_any {p : Nat → Prop} (fr dp se : Int) (v : Value) (ps : List Pt) (w : World) (h : RdP p w v ps) (hlen : ps.length ≤ 100000000) :
    Calls Try.prog 36 #[.agg #[.int .i64 fr, .int .i64 dp, .int .i64 se, v]] w fun e w' => ∃ v', e = .returned (.agg #[.int .i64 fr, .int .i64 dp, .int .i64 se, v']) ∧ OwnP (fun i => w.heap.size ≤ i) w' v' ps ∧ Grow w w' := by
  obtain ⟨i0, hinf, hz0, hz1, hz2⟩ := info_parts infoP
  have HI : Hid (VarAt ((w.alloc (.cells #[.int .i64 fr, .int .i64 dp, .int .i64 se, v] 24)).alloc (.cells #[.int .i64 (0 : Int), .int .i64 (0 : Int), .int .i64 (0 : Int), .slice none 0 0] 24)) w.heap.size [.int .i64 fr, .int .i64 dp, .int .i64 se, v] ∧ VarAt ((w.alloc (.cells #[.int .i64 fr, .int .i64 dp, .int .i64 se, v] 24)).alloc (.cells #[.int .i64 (0 : Int), .int .i64 (0 : Int), .int .i64 (0 : Int), .slice none 0 0] 24)) (w.heap.size + 1) [.int .i64 (0 : Int), .int .i64 (0 : Int), .int .i64 (0 : Int), .slice none 0 0] ∧ Grow w ((w.alloc (.cells #[.int .i64 fr, .int .i64 dp, .int .i64 se, v] 24)).alloc (.cells #[.int .i64 (0 : Int), .int .i64 (0 : Int), .int .i64 (0 : Int), .slice none 0 0] 24))) := two_new
  have HR : Hid (RdP p w v ps) := h
  obtain ⟨a, cp, rfl, h1, h2, -⟩ := h
  unfold maxLen at h2
  go_enter Try.func36, Try.ntmps36
  go_wp2_with (at_make; refine wpList_makeS (f := Pt.cs) (k := 3) rfl (.tmp 6) (.tmp 6) 22 rfl Pt.zero 57 i0 (.agg #[.int .i64 0, .int .i64 0, .int .i64 0]) Try.underlying22 hinf hz0 rfl 24 Pt.cs_length hz1 hz2 .i64 .i64 _ ps.length rfl rfl rfl hlen (by omega) ?_)
  intro v1 w1 ho1 hg1 hlt1
  have X : Hid (VarAt w1 w.heap.size [.int .i64 fr, .int .i64 dp, .int .i64 se, .slice a ps.length cp] ∧ VarAt w1 (w.heap.size + 1) [.int .i64 (0 : Int), .int .i64 (0 : Int), .int .i64 (0 : Int), .slice none 0 0] ∧ Grow w w1) := ⟨HI.out.1.grow hg1, HI.out.2.1.grow hg1, HI.out.2.2.trans hg1⟩
  have hs1 := HR.out.grow X.out.2.2
  obtain ⟨a1, c1, hv1⟩ := ho1.shape
  rw [List.length_replicate] at hv1
  subst hv1
  obtain ⟨w2, hrun, ho2, hu2⟩ := run_copyS (P := Try.prog) 22 22 3 57 i0 Pt.cs_length Try.underlying22 hinf hz1 ho1 hs1 (by simp) Pt.cs_one
  have HO : Hid (OwnP (fun i => i = w.heap.size + 1 + 1) w2 (.slice a1 ps.length c1) ps) := OwnS.mono ho2 (fun i _ h => by simpa using h)
  have HU : Hid (UpdS (fun i => i = w.heap.size + 1 + 1) w1 w2) := hu2.mono (fun i h => by simpa using h)
  clear ho1 hg1 hlt1 hs1 ho2 hu2
  have Y : Hid (VarAt w2 w.heap.size [.int .i64 fr, .int .i64 dp, .int .i64 se, .slice a ps.length cp] ∧ VarAt w2 (w.heap.size + 1) [.int .i64 (0 : Int), .int .i64 (0 : Int), .int .i64 (0 : Int), .slice none 0 0] ∧ Grow w w2) := ⟨X.out.1.upd HU.out (by omega), X.out.2.1.upd HU.out (by omega), UpdS.new X.out.2.2 HU.out (fun i hi => by omega)⟩
  obtain ⟨⟨k0, k1, k2, k3⟩, -⟩ := X.out.1.four
  obtain ⟨⟨m0, m1, m2, m3⟩, f0, f1, f2, f3⟩ := Y.out.1.four
  obtain ⟨⟨n0, n1, n2, n3⟩, g0, g1, g2, g3⟩ := Y.out.2.1.four
  go_wp2
  have hU := (upd_one w2 w.heap.size 3 (.slice a1 ps.length c1)).mono (S' := fun i => i = w.heap.size ∨ i = w.heap.size + 1) (fun i hi => .inl hi)
  have hU2 := hU.trans ((upd_four (w2.setCell ⟨w.heap.size, 3, none⟩ (.slice a1 ps.length c1)) (w.heap.size + 1) (.int .i64 fr) (.int .i64 dp) (.int .i64 se) (.slice a1 ps.length c1)).mono (S' := fun i => i = w.heap.size ∨ i = w.heap.size + 1) (fun i hi => .inr hi))
  refine bodyPost_ret_by (results_cell rfl _ _ _ (.agg #[.int .i64 fr, .int .i64 dp, .int .i64 se, .slice a1 ps.length c1]) rfl (load_G (w.heap.size + 1) fr dp se _ _ ((Y.out.2.1.upd (upd_one w2 w.heap.size 3 _) (by omega)).set4 _ _ _ _) rfl)) rfl ⟨_, rfl, ?_, UpdS.new Y.out.2.2 hU2 (fun i hi => by omega)⟩
  exact OwnS.mono (OwnS.upd HO.out hU2 (fun i _ hi => by omega)) (fun i _ hi => by omega)

end Go.Proofs.Ytlcphhlimcnnaaa
