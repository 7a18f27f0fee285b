/-
  The walks of the counters' Sum, and of the document's. Conditions: each theorem's own.
-/
import Derived.Test.YtnjifmnhcgcpiaaCntSl
import Derived.Test.YtnjifmnhcgcpiaaCntLive
namespace Go.Proofs.Ytnjifmnhcgcpiaa
open Go.RowKit
set_option linter.unusedVariables false
set_option linter.unusedSimpArgs false

set_option maxHeartbeats 4000000 in
theorem csum_any (v : Value) (cs : List C6) (w : World) (h : RdC w v cs) (hok : ∀ c ∈ cs, C6.Ok c) (hn : cs.length ≤ 1000000) :
    Calls Try.prog 14 #[v] w fun e w' => e = .returned (.agg #[.int .u64 (sumC cs).c0, .int .u64 (sumC cs).c1, .int .u64 (sumC cs).c2, .int .u64 (sumC cs).c3, .int .u64 (sumC cs).c4, .int .u64 (sumC cs).c5]) ∧ Grow w w' := by
  have HR : Hid (RdC w v cs ∧ ∀ c ∈ cs, C6.Ok c) := ⟨h, hok⟩
  have HI : Hid (CAt ((w.alloc (.cells #[.int .u64 C6.zero.c0, .int .u64 C6.zero.c1, .int .u64 C6.zero.c2, .int .u64 C6.zero.c3, .int .u64 C6.zero.c4, .int .u64 C6.zero.c5] 24)).alloc (.cells #[.int .u64 C6.zero.c0, .int .u64 C6.zero.c1, .int .u64 C6.zero.c2, .int .u64 C6.zero.c3, .int .u64 C6.zero.c4, .int .u64 C6.zero.c5] 24)) (w.heap.size + 1) (sumC (cs.take 0)) ∧ CAt ((w.alloc (.cells #[.int .u64 C6.zero.c0, .int .u64 C6.zero.c1, .int .u64 C6.zero.c2, .int .u64 C6.zero.c3, .int .u64 C6.zero.c4, .int .u64 C6.zero.c5] 24)).alloc (.cells #[.int .u64 C6.zero.c0, .int .u64 C6.zero.c1, .int .u64 C6.zero.c2, .int .u64 C6.zero.c3, .int .u64 C6.zero.c4, .int .u64 C6.zero.c5] 24)) w.heap.size C6.zero ∧ Grow w ((w.alloc (.cells #[.int .u64 C6.zero.c0, .int .u64 C6.zero.c1, .int .u64 C6.zero.c2, .int .u64 C6.zero.c3, .int .u64 C6.zero.c4, .int .u64 C6.zero.c5] 24)).alloc (.cells #[.int .u64 C6.zero.c0, .int .u64 C6.zero.c1, .int .u64 C6.zero.c2, .int .u64 C6.zero.c3, .int .u64 C6.zero.c4, .int .u64 C6.zero.c5] 24))) := by
    refine ⟨?_, (CAt.new w C6.zero _).grow ((Grow.refl _).alloc _), ((Grow.refl w).alloc _).alloc _⟩
    have := CAt.new (w.alloc (.cells #[.int .u64 C6.zero.c0, .int .u64 C6.zero.c1, .int .u64 C6.zero.c2, .int .u64 C6.zero.c3, .int .u64 C6.zero.c4, .int .u64 C6.zero.c5] 24)) C6.zero 24
    rw [World.size_alloc] at this
    exact this
  simp only [C6.zero] at HI
  obtain ⟨a, cp, rfl, h1, h2, -⟩ := h
  unfold maxLen at h2
  clear hok
  go_enter Try.func14, Try.ntmps14
  go_wp2
  generalize hw1 : (w.alloc (.cells #[.int .u64 0, .int .u64 0, .int .u64 0, .int .u64 0, .int .u64 0, .int .u64 0] 24)).alloc (.cells #[.int .u64 0, .int .u64 0, .int .u64 0, .int .u64 0, .int .u64 0, .int .u64 0] 24) = w1 at HI ⊢
  clear hw1
  obtain ⟨b3, hb3⟩ : ∃ b3, b3 = w.heap.size + 1 := ⟨_, rfl⟩
  obtain ⟨b2, hb2⟩ : ∃ b2, b2 = w.heap.size := ⟨_, rfl⟩
  rw [← hb3] at HI ⊢
  rw [← hb2] at HI hb3 ⊢
  have HB : Hid (b2 = w.heap.size ∧ b3 = b2 + 1) := ⟨hb2, hb3⟩
  clear hb2 hb3
  go_loopg [11] cs.length (fun m i wr => ∃ j : Nat, m = cs.length - j ∧ j ≤ cs.length ∧ i = .int .i64 j ∧ Hid (CAt wr b3 (sumC (cs.take j)) ∧ CAt wr b2 ⟨0, 0, 0, 0, 0, 0⟩ ∧ Grow w wr))
  case atStart => exact ⟨0, by omega, by omega, rfl, HI⟩
  case round =>
    obtain ⟨j, hk, hj, rfl, X⟩ := hrel
    by_cases hlt : j < cs.length
    · have hle : (j : Int) < (cs.length : Int) := by omega
      have HL : Hid (j < cs.length ∧ gk = cs.length - j) := ⟨hlt, hk⟩
      have hw1 : IntKind.i64.wrap ((j : Int) + 1) = (j : Int) + 1 := by rw [IntKind.wrap_i64]; omega
      obtain ⟨bb, oo, rfl, hin⟩ := HR.out.1.at hlt
      have hdok : (cs.getD j C6.zero).Ok := by
        have : cs.getD j C6.zero = cs[j]'hlt := by simp [List.getD, List.getElem?_eq_getElem hlt]
        rw [this]; exact HR.out.2 _ (List.getElem_mem _)
      have hsn : sumC (cs.take (j + 1)) = plusC (sumC (cs.take j)) (cs.getD j C6.zero) := by
        have : cs.take (j + 1) = cs.take j ++ [cs.getD j C6.zero] := by
          rw [List.take_add_one]; simp [List.getD, List.getElem?_eq_getElem hlt]
        rw [this, sumC_snoc]
      have hsok : (sumC (cs.take j)).Ok := sumC_ok (fun y hy => HR.out.2 y (List.mem_of_mem_take hy))
      generalize cs.getD j C6.zero = d at hin hdok hsn
      have HD : Hid (d.Ok ∧ sumC (cs.take (j + 1)) = plusC (sumC (cs.take j)) d ∧ (sumC (cs.take j)).Ok) := ⟨hdok, hsn, hsok⟩
      generalize sumC (cs.take j) = S at X HD
      clear hdok hsn hsok hlt hk hj
      have HN : Hid (CIn w bb (oo + j * 6) d) := hin
      clear hin
      obtain ⟨k0, k1, k2, k3, k4, k5⟩ := HN.out.grow X.out.2.2
      have X1 : Hid (CAt (wr.alloc (.cells #[.int .u64 d.c0, .int .u64 d.c1, .int .u64 d.c2, .int .u64 d.c3, .int .u64 d.c4, .int .u64 d.c5] 24)) b3 (addTo S d 0) ∧ CAt (wr.alloc (.cells #[.int .u64 d.c0, .int .u64 d.c1, .int .u64 d.c2, .int .u64 d.c3, .int .u64 d.c4, .int .u64 d.c5] 24)) b2 ⟨0, 0, 0, 0, 0, 0⟩ ∧ CAt (wr.alloc (.cells #[.int .u64 d.c0, .int .u64 d.c1, .int .u64 d.c2, .int .u64 d.c3, .int .u64 d.c4, .int .u64 d.c5] 24)) wr.heap.size d ∧ Grow w (wr.alloc (.cells #[.int .u64 d.c0, .int .u64 d.c1, .int .u64 d.c2, .int .u64 d.c3, .int .u64 d.c4, .int .u64 d.c5] 24))) :=
        ⟨by rw [addTo_zero]; exact X.out.1.grow ((Grow.refl _).alloc _), X.out.2.1.grow ((Grow.refl _).alloc _), CAt.new wr d _, X.out.2.2.alloc _⟩
      have hb5 : Hid (w.heap.size ≤ wr.heap.size ∧ b2 < wr.heap.size ∧ b3 < wr.heap.size) := ⟨X.out.2.2.size, X.out.2.1.lt, X.out.1.lt⟩
      clear X
      go_wp2
      clear k0 k1 k2 k3 k4 k5
      generalize wr.alloc (.cells #[.int .u64 d.c0, .int .u64 d.c1, .int .u64 d.c2, .int .u64 d.c3, .int .u64 d.c4, .int .u64 d.c5] 24) = w2 at X1 ⊢
      generalize wr.heap.size = b5 at X1 hb5 ⊢
      clear wr
      go_loopg [15] 6 (fun m iv wr => ∃ i : Nat, m = 6 - i ∧ i ≤ 6 ∧ iv = .int .i64 i ∧ Hid (CAt wr b3 (addTo S d i) ∧ CAt wr b2 ⟨0, 0, 0, 0, 0, 0⟩ ∧ CAt wr b5 d ∧ Grow w wr))
      case atStart => exact ⟨0, rfl, by omega, rfl, X1⟩
      case round =>
        obtain ⟨i, hk, hj, rfl, Y⟩ := hrel
        by_cases hlt : i < 6
        · have hle' : (i : Int) < 6 := by omega
          have HL2 : Hid (i < 6) := hlt
          have HK2 : Hid (gk = 6 - i) := hk
          have hne := addTo_succ S d i hlt
          have hgu : U (getC d (i : Int)) := getC_u HD.out.1
          have hto : (addTo S d i).Ok := addTo_ok HD.out.2.2 HD.out.1
          have hcg := fun w' => cget_any d (i : Int) w'
          have hca := fun w' => cadd_any (addTo S d i) (i : Int) (getC d (i : Int)) w' hto hgu
          rw [← hne] at hca
          generalize getC d (i : Int) = G at hcg hca
          generalize isK (i : Int) = I at hcg
          clear hne hgu hto hlt hk hj
          obtain ⟨⟨k0, k1, k2, k3, k4, k5⟩, -⟩ := Y.out.2.2.1
          go_wp2_with fail
          refine (hcg wr).mono ?_
          rintro e w3 ⟨rfl, g3⟩
          clear k0 k1 k2 k3 k4 k5 hcg
          have Y3 : Hid (CAt w3 b3 (addTo S d i) ∧ CAt w3 b2 ⟨0, 0, 0, 0, 0, 0⟩ ∧ CAt w3 b5 d ∧ Grow w w3) := ⟨Y.out.1.grow g3, Y.out.2.1.grow g3, Y.out.2.2.1.grow g3, Y.out.2.2.2.trans g3⟩
          clear g3
          obtain ⟨⟨k0, k1, k2, k3, k4, k5⟩, -⟩ := Y3.out.1
          go_wp2_with fail
          refine (hca w3).mono ?_
          rintro e w4 ⟨rfl, g4⟩
          clear k0 k1 k2 k3 k4 k5 hca
          have Y4 : Hid (CAt w4 b3 (addTo S d i) ∧ CAt w4 b2 ⟨0, 0, 0, 0, 0, 0⟩ ∧ CAt w4 b5 d ∧ Grow w w4) := ⟨Y3.out.1.grow g4, Y3.out.2.1.grow g4, Y3.out.2.2.1.grow g4, Y3.out.2.2.2.trans g4⟩
          clear g4 Y3
          obtain ⟨⟨k0, k1, k2, k3, k4, k5⟩, f0, f1, f2, f3, f4, f5⟩ := Y4.out.1
          have Y5 : Hid (CAt ((((((w4.setCell ⟨b3, 0, none⟩ (.int .u64 (addTo S d (i + 1)).c0)).setCell ⟨b3, 1, none⟩ (.int .u64 (addTo S d (i + 1)).c1)).setCell ⟨b3, 2, none⟩ (.int .u64 (addTo S d (i + 1)).c2)).setCell ⟨b3, 3, none⟩ (.int .u64 (addTo S d (i + 1)).c3)).setCell ⟨b3, 4, none⟩ (.int .u64 (addTo S d (i + 1)).c4)).setCell ⟨b3, 5, none⟩ (.int .u64 (addTo S d (i + 1)).c5)) b3 (addTo S d (i + 1)) ∧ CAt ((((((w4.setCell ⟨b3, 0, none⟩ (.int .u64 (addTo S d (i + 1)).c0)).setCell ⟨b3, 1, none⟩ (.int .u64 (addTo S d (i + 1)).c1)).setCell ⟨b3, 2, none⟩ (.int .u64 (addTo S d (i + 1)).c2)).setCell ⟨b3, 3, none⟩ (.int .u64 (addTo S d (i + 1)).c3)).setCell ⟨b3, 4, none⟩ (.int .u64 (addTo S d (i + 1)).c4)).setCell ⟨b3, 5, none⟩ (.int .u64 (addTo S d (i + 1)).c5)) b2 ⟨0, 0, 0, 0, 0, 0⟩ ∧ CAt ((((((w4.setCell ⟨b3, 0, none⟩ (.int .u64 (addTo S d (i + 1)).c0)).setCell ⟨b3, 1, none⟩ (.int .u64 (addTo S d (i + 1)).c1)).setCell ⟨b3, 2, none⟩ (.int .u64 (addTo S d (i + 1)).c2)).setCell ⟨b3, 3, none⟩ (.int .u64 (addTo S d (i + 1)).c3)).setCell ⟨b3, 4, none⟩ (.int .u64 (addTo S d (i + 1)).c4)).setCell ⟨b3, 5, none⟩ (.int .u64 (addTo S d (i + 1)).c5)) b5 d ∧ Grow w ((((((w4.setCell ⟨b3, 0, none⟩ (.int .u64 (addTo S d (i + 1)).c0)).setCell ⟨b3, 1, none⟩ (.int .u64 (addTo S d (i + 1)).c1)).setCell ⟨b3, 2, none⟩ (.int .u64 (addTo S d (i + 1)).c2)).setCell ⟨b3, 3, none⟩ (.int .u64 (addTo S d (i + 1)).c3)).setCell ⟨b3, 4, none⟩ (.int .u64 (addTo S d (i + 1)).c4)).setCell ⟨b3, 5, none⟩ (.int .u64 (addTo S d (i + 1)).c5))) := ⟨Y4.out.1.set _, Y4.out.2.1.upd (upd_six w4 b3 _) (by have := HB.out; omega), Y4.out.2.2.1.upd (upd_six w4 b3 _) (by have := hb5.out; omega), UpdS.new Y4.out.2.2.2 (upd_six w4 b3 _) (fun i hi => by have := HB.out; omega)⟩
          go_wp2
          clear k0 k1 k2 k3 k4 k5 f0 f1 f2 f3 f4 f5
          go_roundg (6 - (i + 1))
          case measure => have := HL2.out; have := HK2.out; omega
          case rel => exact ⟨i + 1, rfl, HL2.out, by go_num, Y5⟩
        · have hle' : ¬ (i : Int) < 6 := by omega
          obtain rfl : i = 6 := by omega
          have hY6 : addTo S d 6 = plusC S d := rfl
          have YE : Hid (CAt wr b3 (sumC (cs.take (j + 1))) ∧ CAt wr b2 ⟨0, 0, 0, 0, 0, 0⟩ ∧ Grow w wr) := ⟨by rw [HD.out.2.1]; exact hY6 ▸ Y.out.1, Y.out.2.1, Y.out.2.2.2⟩
          clear hlt hk hj hY6
          go_wp2
          go_roundg (cs.length - (j + 1))
          case measure => have := HL.out; omega
          case rel => exact ⟨j + 1, rfl, HL.out.1, by go_num, YE⟩
    · have hle : ¬ (j : Int) < (cs.length : Int) := by omega
      obtain rfl : j = cs.length := by omega
      have XE : Hid (CAt wr b3 (sumC cs) ∧ CAt wr b2 ⟨0, 0, 0, 0, 0, 0⟩ ∧ Grow w wr) := by
        have := X.out
        rw [List.take_length] at this
        exact this
      clear X hlt hj hk
      obtain ⟨⟨k0, k1, k2, k3, k4, k5⟩, -⟩ := XE.out.1
      obtain ⟨⟨n0, n1, n2, n3, n4, n5⟩, f0, f1, f2, f3, f4, f5⟩ := XE.out.2.1
      go_wp2
      exact bodyPost_ret_by (results_cell rfl _ _ _ (.agg #[.int .u64 (sumC cs).c0, .int .u64 (sumC cs).c1, .int .u64 (sumC cs).c2, .int .u64 (sumC cs).c3, .int .u64 (sumC cs).c4, .int .u64 (sumC cs).c5]) rfl (load_C b2 (sumC cs) _ (XE.out.2.1.set (sumC cs)))) rfl ⟨rfl, UpdS.new XE.out.2.2 (upd_six wr b2 _) (fun i hi => by have := HB.out; omega)⟩

set_option maxHeartbeats 4000000 in
theorem rsum_any (v : Value) (cs : List C6) (w : World) (h : RdC w v cs) (hok : ∀ c ∈ cs, C6.Ok c) (hn : cs.length ≤ 1000000) :
    Calls Try.prog 15 #[v] w fun e w' => e = .returned (.agg #[.int .u64 (sumC cs).c0, .int .u64 (sumC cs).c1, .int .u64 (sumC cs).c2, .int .u64 (sumC cs).c3, .int .u64 (sumC cs).c4, .int .u64 (sumC cs).c5]) ∧ Grow w w' := by
  have HR : Hid (RdC w v cs ∧ ∀ c ∈ cs, C6.Ok c) := ⟨h, hok⟩
  have HI : Hid (CAt ((w.alloc (.cells #[.int .u64 C6.zero.c0, .int .u64 C6.zero.c1, .int .u64 C6.zero.c2, .int .u64 C6.zero.c3, .int .u64 C6.zero.c4, .int .u64 C6.zero.c5] 24)).alloc (.cells #[.int .u64 C6.zero.c0, .int .u64 C6.zero.c1, .int .u64 C6.zero.c2, .int .u64 C6.zero.c3, .int .u64 C6.zero.c4, .int .u64 C6.zero.c5] 24)) (w.heap.size + 1) (sumC (cs.take 0)) ∧ CAt ((w.alloc (.cells #[.int .u64 C6.zero.c0, .int .u64 C6.zero.c1, .int .u64 C6.zero.c2, .int .u64 C6.zero.c3, .int .u64 C6.zero.c4, .int .u64 C6.zero.c5] 24)).alloc (.cells #[.int .u64 C6.zero.c0, .int .u64 C6.zero.c1, .int .u64 C6.zero.c2, .int .u64 C6.zero.c3, .int .u64 C6.zero.c4, .int .u64 C6.zero.c5] 24)) w.heap.size C6.zero ∧ Grow w ((w.alloc (.cells #[.int .u64 C6.zero.c0, .int .u64 C6.zero.c1, .int .u64 C6.zero.c2, .int .u64 C6.zero.c3, .int .u64 C6.zero.c4, .int .u64 C6.zero.c5] 24)).alloc (.cells #[.int .u64 C6.zero.c0, .int .u64 C6.zero.c1, .int .u64 C6.zero.c2, .int .u64 C6.zero.c3, .int .u64 C6.zero.c4, .int .u64 C6.zero.c5] 24))) := by
    refine ⟨?_, (CAt.new w C6.zero _).grow ((Grow.refl _).alloc _), ((Grow.refl w).alloc _).alloc _⟩
    have := CAt.new (w.alloc (.cells #[.int .u64 C6.zero.c0, .int .u64 C6.zero.c1, .int .u64 C6.zero.c2, .int .u64 C6.zero.c3, .int .u64 C6.zero.c4, .int .u64 C6.zero.c5] 24)) C6.zero 24
    rw [World.size_alloc] at this
    exact this
  simp only [C6.zero] at HI
  obtain ⟨a, cp, rfl, h1, h2, -⟩ := h
  unfold maxLen at h2
  clear hok
  go_enter Try.func15, Try.ntmps15
  go_wp2
  generalize hw1 : (w.alloc (.cells #[.int .u64 0, .int .u64 0, .int .u64 0, .int .u64 0, .int .u64 0, .int .u64 0] 24)).alloc (.cells #[.int .u64 0, .int .u64 0, .int .u64 0, .int .u64 0, .int .u64 0, .int .u64 0] 24) = w1 at HI ⊢
  clear hw1
  obtain ⟨b3, hb3⟩ : ∃ b3, b3 = w.heap.size + 1 := ⟨_, rfl⟩
  obtain ⟨b2, hb2⟩ : ∃ b2, b2 = w.heap.size := ⟨_, rfl⟩
  rw [← hb3] at HI ⊢
  rw [← hb2] at HI hb3 ⊢
  have HB : Hid (b2 = w.heap.size ∧ b3 = b2 + 1) := ⟨hb2, hb3⟩
  clear hb2 hb3
  go_loopg [4] cs.length (fun m i wr => ∃ j : Nat, m = cs.length - j ∧ j ≤ cs.length ∧ i = .int .i64 j ∧ Hid (CAt wr b3 (sumC (cs.take j)) ∧ CAt wr b2 ⟨0, 0, 0, 0, 0, 0⟩ ∧ Grow w wr))
  case atStart => exact ⟨0, by omega, by omega, rfl, HI⟩
  case round =>
    obtain ⟨j, hk, hj, rfl, X⟩ := hrel
    by_cases hlt : j < cs.length
    · have hle : (j : Int) < (cs.length : Int) := by omega
      have HL : Hid (j < cs.length ∧ gk = cs.length - j) := ⟨hlt, hk⟩
      have hw1 : IntKind.i64.wrap ((j : Int) + 1) = (j : Int) + 1 := by rw [IntKind.wrap_i64]; omega
      obtain ⟨bb, oo, rfl, hin⟩ := HR.out.1.at hlt
      have hdok : (cs.getD j C6.zero).Ok := by
        have : cs.getD j C6.zero = cs[j]'hlt := by simp [List.getD, List.getElem?_eq_getElem hlt]
        rw [this]; exact HR.out.2 _ (List.getElem_mem _)
      have hsn : sumC (cs.take (j + 1)) = plusC (sumC (cs.take j)) (cs.getD j C6.zero) := by
        have : cs.take (j + 1) = cs.take j ++ [cs.getD j C6.zero] := by
          rw [List.take_add_one]; simp [List.getD, List.getElem?_eq_getElem hlt]
        rw [this, sumC_snoc]
      have hsok : (sumC (cs.take j)).Ok := sumC_ok (fun y hy => HR.out.2 y (List.mem_of_mem_take hy))
      generalize cs.getD j C6.zero = d at hin hdok hsn
      have HD : Hid (d.Ok ∧ sumC (cs.take (j + 1)) = plusC (sumC (cs.take j)) d ∧ (sumC (cs.take j)).Ok) := ⟨hdok, hsn, hsok⟩
      generalize sumC (cs.take j) = S at X HD
      clear hdok hsn hsok hlt hk hj
      have HN : Hid (CIn w bb (oo + j * 6) d) := hin
      clear hin
      have X1 : Hid (CAt wr b3 (addTo S d 0) ∧ CAt wr b2 ⟨0, 0, 0, 0, 0, 0⟩ ∧ Grow w wr) :=
        ⟨by rw [addTo_zero]; exact X.out.1, X.out.2.1, X.out.2.2⟩
      clear X
      go_wp2
      generalize wr = w2 at X1 ⊢
      go_loopg [5] 6 (fun m iv wr => ∃ i : Nat, m = 6 - i ∧ i ≤ 6 ∧ iv = .int .i64 i ∧ Hid (CAt wr b3 (addTo S d i) ∧ CAt wr b2 ⟨0, 0, 0, 0, 0, 0⟩ ∧ Grow w wr))
      case atStart => exact ⟨0, rfl, by omega, rfl, X1⟩
      case round =>
        obtain ⟨i, hk, hj, rfl, Y⟩ := hrel
        by_cases hlt : i < 6
        · have hle' : (i : Int) < 6 := by omega
          have HL2 : Hid (i < 6) := hlt
          have HK2 : Hid (gk = 6 - i) := hk
          have hne := addTo_succ S d i hlt
          have hgu : U (getC d (i : Int)) := getC_u HD.out.1
          have hto : (addTo S d i).Ok := addTo_ok HD.out.2.2 HD.out.1
          have hcg := fun w' => rget_any d (i : Int) w'
          have hca := fun w' => radd_any (addTo S d i) (i : Int) (getC d (i : Int)) w' hto hgu
          rw [← hne] at hca
          generalize getC d (i : Int) = G at hcg hca
          generalize isK (i : Int) = I at hcg
          clear hne hgu hto hlt hk hj
          obtain ⟨k0, k1, k2, k3, k4, k5⟩ := HN.out.grow Y.out.2.2
          go_wp2_with fail
          refine (hcg wr).mono ?_
          rintro e w3 ⟨rfl, g3⟩
          clear k0 k1 k2 k3 k4 k5 hcg
          have Y3 : Hid (CAt w3 b3 (addTo S d i) ∧ CAt w3 b2 ⟨0, 0, 0, 0, 0, 0⟩ ∧ Grow w w3) := ⟨Y.out.1.grow g3, Y.out.2.1.grow g3, Y.out.2.2.trans g3⟩
          clear g3
          obtain ⟨⟨k0, k1, k2, k3, k4, k5⟩, -⟩ := Y3.out.1
          go_wp2_with fail
          refine (hca w3).mono ?_
          rintro e w4 ⟨rfl, g4⟩
          clear k0 k1 k2 k3 k4 k5 hca
          have Y4 : Hid (CAt w4 b3 (addTo S d i) ∧ CAt w4 b2 ⟨0, 0, 0, 0, 0, 0⟩ ∧ Grow w w4) := ⟨Y3.out.1.grow g4, Y3.out.2.1.grow g4, Y3.out.2.2.trans g4⟩
          clear g4 Y3
          obtain ⟨⟨k0, k1, k2, k3, k4, k5⟩, f0, f1, f2, f3, f4, f5⟩ := Y4.out.1
          have Y5 : Hid (CAt ((((((w4.setCell ⟨b3, 0, none⟩ (.int .u64 (addTo S d (i + 1)).c0)).setCell ⟨b3, 1, none⟩ (.int .u64 (addTo S d (i + 1)).c1)).setCell ⟨b3, 2, none⟩ (.int .u64 (addTo S d (i + 1)).c2)).setCell ⟨b3, 3, none⟩ (.int .u64 (addTo S d (i + 1)).c3)).setCell ⟨b3, 4, none⟩ (.int .u64 (addTo S d (i + 1)).c4)).setCell ⟨b3, 5, none⟩ (.int .u64 (addTo S d (i + 1)).c5)) b3 (addTo S d (i + 1)) ∧ CAt ((((((w4.setCell ⟨b3, 0, none⟩ (.int .u64 (addTo S d (i + 1)).c0)).setCell ⟨b3, 1, none⟩ (.int .u64 (addTo S d (i + 1)).c1)).setCell ⟨b3, 2, none⟩ (.int .u64 (addTo S d (i + 1)).c2)).setCell ⟨b3, 3, none⟩ (.int .u64 (addTo S d (i + 1)).c3)).setCell ⟨b3, 4, none⟩ (.int .u64 (addTo S d (i + 1)).c4)).setCell ⟨b3, 5, none⟩ (.int .u64 (addTo S d (i + 1)).c5)) b2 ⟨0, 0, 0, 0, 0, 0⟩ ∧ Grow w ((((((w4.setCell ⟨b3, 0, none⟩ (.int .u64 (addTo S d (i + 1)).c0)).setCell ⟨b3, 1, none⟩ (.int .u64 (addTo S d (i + 1)).c1)).setCell ⟨b3, 2, none⟩ (.int .u64 (addTo S d (i + 1)).c2)).setCell ⟨b3, 3, none⟩ (.int .u64 (addTo S d (i + 1)).c3)).setCell ⟨b3, 4, none⟩ (.int .u64 (addTo S d (i + 1)).c4)).setCell ⟨b3, 5, none⟩ (.int .u64 (addTo S d (i + 1)).c5))) := ⟨Y4.out.1.set _, Y4.out.2.1.upd (upd_six w4 b3 _) (by have := HB.out; omega), UpdS.new Y4.out.2.2 (upd_six w4 b3 _) (fun i hi => by have := HB.out; omega)⟩
          go_wp2
          clear k0 k1 k2 k3 k4 k5 f0 f1 f2 f3 f4 f5
          go_roundg (6 - (i + 1))
          case measure => have := HL2.out; have := HK2.out; omega
          case rel => exact ⟨i + 1, rfl, HL2.out, by go_num, Y5⟩
        · have hle' : ¬ (i : Int) < 6 := by omega
          obtain rfl : i = 6 := by omega
          have hY6 : addTo S d 6 = plusC S d := rfl
          have YE : Hid (CAt wr b3 (sumC (cs.take (j + 1))) ∧ CAt wr b2 ⟨0, 0, 0, 0, 0, 0⟩ ∧ Grow w wr) := ⟨by rw [HD.out.2.1]; exact hY6 ▸ Y.out.1, Y.out.2.1, Y.out.2.2⟩
          clear hlt hk hj hY6
          go_wp2
          go_roundg (cs.length - (j + 1))
          case measure => have := HL.out; omega
          case rel => exact ⟨j + 1, rfl, HL.out.1, by go_num, YE⟩
    · have hle : ¬ (j : Int) < (cs.length : Int) := by omega
      obtain rfl : j = cs.length := by omega
      have XE : Hid (CAt wr b3 (sumC cs) ∧ CAt wr b2 ⟨0, 0, 0, 0, 0, 0⟩ ∧ Grow w wr) := by
        have := X.out
        rw [List.take_length] at this
        exact this
      clear X hlt hj hk
      obtain ⟨⟨k0, k1, k2, k3, k4, k5⟩, -⟩ := XE.out.1
      obtain ⟨⟨n0, n1, n2, n3, n4, n5⟩, f0, f1, f2, f3, f4, f5⟩ := XE.out.2.1
      go_wp2
      exact bodyPost_ret_by (results_cell rfl _ _ _ (.agg #[.int .u64 (sumC cs).c0, .int .u64 (sumC cs).c1, .int .u64 (sumC cs).c2, .int .u64 (sumC cs).c3, .int .u64 (sumC cs).c4, .int .u64 (sumC cs).c5]) rfl (load_C b2 (sumC cs) _ (XE.out.2.1.set (sumC cs)))) rfl ⟨rfl, UpdS.new XE.out.2.2 (upd_six wr b2 _) (fun i hi => by have := HB.out; omega)⟩
end Go.Proofs.Ytnjifmnhcgcpiaa
