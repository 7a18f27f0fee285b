/-
  The walk of Text. Conditions: each theorem's own.
-/
import Derived.Test.YtpmmlocigaehnaaDoorPlnT
namespace Go.Proofs.YtpmmlocigaehnaaDoor
open Go.RowKit
set_option linter.unusedVariables false
set_option linter.unusedSimpArgs false
theorem eqI {a b : Int} (h : a = b) : (a == b) = true := by simp; omega
theorem neqI {a b : Int} (h : ¬ a = b) : (a == b) = false := by simp; omega
theorem placeL_len (x : Sp) (hp : (Lit.int .i64 x.p).wf = true) (hk : (Lit.int .i64 x.k).wf = true) : (placeL x).length ≤ 44 := by
  have := itoa_len _ hp
  have := itoa_len _ hk
  unfold placeL
  simp only [List.length_append, List.length_singleton]
  omega

set_option maxHeartbeats 4000000 in
theorem text_1 (p k : Int) (w : World) (hp : (Lit.int .i64 p).wf = true) (hk : (Lit.int .i64 k).wf = true) (h : Tab w) : Calls Tryd.prog 19 #[.agg #[.int .i64 1, .int .i64 p, .int .i64 k]] w fun e w' => e = .returned (.string (tx ([108, 111, 97, 100] ++ placeL ⟨1, p, k⟩))) ∧ Grow w w' := by
  obtain ⟨W0, hW0⟩ : ∃ W0, W0 = w.alloc (.cells #[.int .i64 1, .int .i64 p, .int .i64 k] 39) := ⟨_, rfl⟩
  have HV : Hid (VarAt W0 w.heap.size [.int .i64 1, .int .i64 p, .int .i64 k] ∧ Grow w W0) := by rw [hW0]; exact ⟨VarAt.new w [.int .i64 1, .int .i64 p, .int .i64 k] _, (Grow.refl w).alloc _⟩
  obtain ⟨b, hb⟩ : ∃ b, b = w.heap.size := ⟨_, rfl⟩
  rw [← hb] at HV
  have kp := fun (u : World) (g : Grow w u) => place_any ⟨1, p, k⟩ u hp hk (h.grow g)
  have q1 := tx_add [108, 111, 97, 100] (placeL ⟨1, p, k⟩) (by have := placeL_len ⟨1, p, k⟩ hp hk; simp; omega)
  generalize placeL ⟨1, p, k⟩ = A at q1 kp ⊢
  generalize [108, 111, 97, 100] ++ A = M at q1 ⊢
  have e0 : tx [108, 111, 97, 100] = ⟨#[108, 111, 97, 100]⟩ := rfl
  rw [e0] at q1
  simp only at kp
  generalize tx A = TA at q1 kp
  generalize tx M = TM at q1 ⊢
  have HC := hid kp
  obtain ⟨⟨m0, m1, m2⟩, -⟩ := HV.out.1.three
  clear h hp hk kp e0
  go_enter Tryd.func19, Tryd.ntmps19
  go_upto_region 1 with fail
  rw [← hW0, ← hb]
  clear hW0 hb
  go_wp2_with fail
  refine (HC.out _ HV.out.2).mono ?_
  rintro e w2 ⟨rfl, g2⟩
  have z1 := q1 w2
  clear m0 m1 m2
  go_wp2
  go_ret
  exact ⟨rfl, HV.out.2.trans g2⟩

set_option maxHeartbeats 4000000 in
theorem text_2 (p k : Int) (w : World) (hp : (Lit.int .i64 p).wf = true) (hk : (Lit.int .i64 k).wf = true) (h : Tab w) : Calls Tryd.prog 19 #[.agg #[.int .i64 2, .int .i64 p, .int .i64 k]] w fun e w' => e = .returned (.string (tx ([115, 116, 111, 114, 101] ++ placeL ⟨2, p, k⟩))) ∧ Grow w w' := by
  obtain ⟨W0, hW0⟩ : ∃ W0, W0 = w.alloc (.cells #[.int .i64 2, .int .i64 p, .int .i64 k] 39) := ⟨_, rfl⟩
  have HV : Hid (VarAt W0 w.heap.size [.int .i64 2, .int .i64 p, .int .i64 k] ∧ Grow w W0) := by rw [hW0]; exact ⟨VarAt.new w [.int .i64 2, .int .i64 p, .int .i64 k] _, (Grow.refl w).alloc _⟩
  obtain ⟨b, hb⟩ : ∃ b, b = w.heap.size := ⟨_, rfl⟩
  rw [← hb] at HV
  have kp := fun (u : World) (g : Grow w u) => place_any ⟨2, p, k⟩ u hp hk (h.grow g)
  have q1 := tx_add [115, 116, 111, 114, 101] (placeL ⟨2, p, k⟩) (by have := placeL_len ⟨2, p, k⟩ hp hk; simp; omega)
  generalize placeL ⟨2, p, k⟩ = A at q1 kp ⊢
  generalize [115, 116, 111, 114, 101] ++ A = M at q1 ⊢
  have e0 : tx [115, 116, 111, 114, 101] = ⟨#[115, 116, 111, 114, 101]⟩ := rfl
  rw [e0] at q1
  simp only at kp
  generalize tx A = TA at q1 kp
  generalize tx M = TM at q1 ⊢
  have HC := hid kp
  obtain ⟨⟨m0, m1, m2⟩, -⟩ := HV.out.1.three
  clear h hp hk kp e0
  go_enter Tryd.func19, Tryd.ntmps19
  go_upto_region 1 with fail
  rw [← hW0, ← hb]
  clear hW0 hb
  go_wp2_with fail
  refine (HC.out _ HV.out.2).mono ?_
  rintro e w2 ⟨rfl, g2⟩
  have z1 := q1 w2
  clear m0 m1 m2
  go_wp2
  go_ret
  exact ⟨rfl, HV.out.2.trans g2⟩

set_option maxHeartbeats 4000000 in
theorem text_3 (p k : Int) (w : World) : Calls Tryd.prog 19 #[.agg #[.int .i64 3, .int .i64 p, .int .i64 k]] w fun e w' => e = .returned (.string (tx [98, 97, 114, 114, 105, 101, 114])) ∧ Grow w w' := by
  obtain ⟨W0, hW0⟩ : ∃ W0, W0 = w.alloc (.cells #[.int .i64 3, .int .i64 p, .int .i64 k] 39) := ⟨_, rfl⟩
  have HV : Hid (VarAt W0 w.heap.size [.int .i64 3, .int .i64 p, .int .i64 k] ∧ Grow w W0) := by rw [hW0]; exact ⟨VarAt.new w [.int .i64 3, .int .i64 p, .int .i64 k] _, (Grow.refl w).alloc _⟩
  obtain ⟨b, hb⟩ : ∃ b, b = w.heap.size := ⟨_, rfl⟩
  rw [← hb] at HV
  obtain ⟨⟨m0, m1, m2⟩, -⟩ := HV.out.1.three
  go_enter Tryd.func19, Tryd.ntmps19
  go_upto_region 1 with fail
  rw [← hW0, ← hb]
  clear hW0 hb
  go_wp2
  go_ret
  exact ⟨rfl, HV.out.2⟩

set_option maxHeartbeats 4000000 in
theorem text_no (o p k : Int) (w : World) (h1 : ¬ o = 1) (h2 : ¬ o = 2) (h3 : ¬ o = 3) : Calls Tryd.prog 19 #[.agg #[.int .i64 o, .int .i64 p, .int .i64 k]] w fun e w' => e = .returned (.string (tx [])) ∧ Grow w w' := by
  obtain ⟨W0, hW0⟩ : ∃ W0, W0 = w.alloc (.cells #[.int .i64 o, .int .i64 p, .int .i64 k] 39) := ⟨_, rfl⟩
  have HV : Hid (VarAt W0 w.heap.size [.int .i64 o, .int .i64 p, .int .i64 k] ∧ Grow w W0) := by rw [hW0]; exact ⟨VarAt.new w [.int .i64 o, .int .i64 p, .int .i64 k] _, (Grow.refl w).alloc _⟩
  obtain ⟨b, hb⟩ : ∃ b, b = w.heap.size := ⟨_, rfl⟩
  rw [← hb] at HV
  obtain ⟨⟨m0, m1, m2⟩, -⟩ := HV.out.1.three
  have n1 := neqI h1
  have n2 := neqI h2
  have n3 := neqI h3
  clear h1 h2 h3
  go_enter Tryd.func19, Tryd.ntmps19
  go_upto_region 1 with fail
  rw [← hW0, ← hb]
  clear hW0 hb
  go_wp2
  go_ret
  exact ⟨rfl, HV.out.2⟩

theorem text_any (x : Sp) (w : World) (hp : (Lit.int .i64 x.p).wf = true) (hk : (Lit.int .i64 x.k).wf = true) (h : Tab w) : Calls Tryd.prog 19 #[.agg #[.int .i64 x.o, .int .i64 x.p, .int .i64 x.k]] w fun e w' => e = .returned (.string (tx (txtL x))) ∧ Grow w w' := by
  obtain ⟨o, p, k⟩ := x
  simp only at hp hk ⊢
  unfold txtL
  by_cases h1 : o = 1
  · subst h1; exact text_1 p k w hp hk h
  · by_cases h2 : o = 2
    · subst h2; exact text_2 p k w hp hk h
    · by_cases h3 : o = 3
      · subst h3; exact text_3 p k w
      · simp only [if_neg h1, if_neg h2, if_neg h3]
        exact text_no o p k w h1 h2 h3
end Go.Proofs.YtpmmlocigaehnaaDoor
