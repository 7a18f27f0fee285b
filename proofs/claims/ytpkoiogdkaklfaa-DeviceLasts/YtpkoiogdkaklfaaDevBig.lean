/-
  Streams of however many bits: the walks of bits' fresh and New, of any row within the reach. Conditions: each theorem's own.
-/
import Derived.Test.YtpkoiogdkaklfaaBits
namespace Go.Proofs.Ytpkoiogdkaklfaa
open Go.RowKit
set_option linter.unusedVariables false
set_option linter.unusedSimpArgs false

section
variable {P : Program} {α : Type}
/-- a new slice of noughts, of however many -/
theorem wpList_makeL {w : World} {ops : Array Oper} {rest : List Oper} {o : Oper} {a : Act} {Q : Exit → Act → World → Prop} (hgd : o.guard = none) (l c : Operand) (t : TypeId) (ho : o.op = .makeSlice t l c)
    (f : α → Value) (d : α) (e : TypeId) (i : TypeInfo) (ht : P.underlying t = some (.slice e)) (hi : P.info? e = some i) (hz : i.zero = some (f d)) (hzc : (f d).cells = #[f d]) (bytes : Nat) (hsize : i.size = 1) (hby : i.bytes = bytes)
    (kl kc : IntKind) (C : Int) (n : Nat) (hl : a.eval l = .int kl C) (hc : a.eval c = .int kc C) (hC : C = (n : Int)) (hn : n ≤ 281474976710656) (hb : (bytes : Int) * n ≤ 281474976710656)
    (hK : ∀ v' w', OwnV f d (fun i => i = w.heap.size) w' v' (List.replicate n d) → Grow w w' → w.heap.size < w'.heap.size → wpList P ops Q rest (a.put o.dst v') w') : wpList P ops Q (o :: rest) a w := by
  subst hC
  refine wpList_plain hgd fun K hK' => ?_
  have hrun := run_make (P := P) w t e i (f d) ht hi hz kl kc n n (by omega) (by omega) (by rw [hby]; exact hb) (by omega)
  unfold Oper.wp
  simp [execOp, ho, hl, hc, hrun, Result.andThen]
  have hsz : (madeCells (f d).cells (n * i.size)).size = n := by rw [size_madeCells, hsize]; simp
  refine hK' _ _ (hK _ _ ?_ ((Grow.refl w).alloc _) (by simp))
  have hcell : ∀ j, j < n → (w.alloc (.cells (madeCells (f d).cells (n * i.size)) e)).cell? ⟨w.heap.size, j, none⟩ = some (f d) := fun j hj => by
    refine (World.cell?_alloc_new w _ _ j).trans ?_
    rw [Array.getElem?_eq_getElem (by rw [hsz]; exact hj)]
    simp [madeCells, hzc, Nat.mod_one]
  by_cases h0 : n = 0
  · subst h0
    exact .inl ⟨rfl, _, rfl⟩
  · refine .inr ⟨w.heap.size, 0, n, by simp, rfl, by omega, by simp, by simp only [maxLen]; omega, fun j hj => ?_, fun j hj => ⟨?_, ?_⟩⟩
    · rw [List.length_replicate] at hj
      rw [Nat.zero_add, hcell j hj]
      simp [List.getD, hj]
    · rw [Nat.zero_add, hcell j hj]; rfl
    · exact World.frozen?_alloc_new w _ _ _
end

set_option maxHeartbeats 1000000 in
theorem bfreshL_any (sv : Value) (ss : List Bool) (p : Nat → Prop) (w : World) (hs : RdV Value.bool false p w sv ss) (hm : ss.length ≤ 140737488355328) :
    Calls Try.prog 45 #[sv] w fun e w' => ∃ v', e = .returned v' ∧ OwnV Value.bool false (fun i => i = w.heap.size) w' v' ss ∧ Grow w w' ∧ w.heap.size < w'.heap.size := by
  obtain ⟨i0, hi, hz0, hz1, hz2⟩ := info_parts Try.info4
  have hs' := hs
  obtain ⟨a, c, rfl, h1, h2, -⟩ := hs
  go_enter Try.func45, Try.ntmps45
  go_wp2_with (at_make; refine wpList_makeL rfl (.tmp 5) (.tmp 5) 35 rfl Value.bool false 4 i0 Try.underlying35 hi hz0 rfl 1 hz1 hz2 .i64 .i64 _ ss.length rfl rfl rfl (by omega) (by omega) ?_)
  intro v1 w1 ho1 hg1 hlt1
  have hs1 := hs'.grow hg1
  have Ho1 : Hid (OwnV Value.bool false (fun i => i = w.heap.size) w1 v1 (List.replicate ss.length false)) := ho1
  clear hs'
  have HG : Hid (Grow w w1 ∧ w.heap.size < w1.heap.size) := ⟨hg1, hlt1⟩
  clear hg1 hlt1
  obtain ⟨a1, c1, hv1⟩ := ho1.shape
  rw [List.length_replicate] at hv1
  subst hv1
  obtain ⟨w2, hrun, ho2, hu2⟩ := run_copyV (P := Try.prog) 35 35 3 4 Try.underlying35 (by rw [hi]; simp [hz1]) Ho1.out hs1 (by simp) oneB
  go_wp2
  go_ret
  obtain ⟨hg1, hlt1⟩ := HG.out
  exact ⟨_, rfl, ho2, UpdS.new hg1 hu2 (fun i hi => by omega), by have := hu2.size; omega⟩

set_option maxHeartbeats 1000000 in
theorem bnewL_any (sv : Value) (ss : List Bool) (p : Nat → Prop) (w : World) (hs : RdV Value.bool false p w sv ss) (hm : ss.length ≤ 140737488355328) :
    Calls Try.prog 21 #[sv] w fun e w' => ∃ b g, e = .returned (.pointer (some ⟨b, 0, none⟩)) ∧ StrAt w' b g ss 0 ∧ Grow w w' ∧ w.heap.size ≤ g ∧ w.heap.size ≤ b := by
  have hc := bfreshL_any sv ss p w hs hm
  obtain ⟨a, c, rfl, h1, h2, -⟩ := hs
  go_enter Try.func21, Try.ntmps21
  go_wp2_with fail
  refine hc.mono ?_
  rintro e w1 ⟨v1, rfl, ho1, hg1, hlt1⟩
  obtain ⟨a1, c1, rfl⟩ := ho1.shape
  have hr : StrAt (w1.alloc (.cells #[.slice a1 ss.length c1, .int .i64 0] 82)) w1.heap.size w.heap.size ss 0 := by
    refine ⟨a1, c1, ?_, ?_, ?_, ?_, ho1.grow ((Grow.refl w1).alloc _), by omega, by simp; omega⟩
    · exact (World.cell?_alloc_new w1 _ _ 0).trans (by simp)
    · exact (World.cell?_alloc_new w1 _ _ 1).trans (by simp)
    · exact World.frozen?_alloc_new w1 _ _ _
    · exact World.frozen?_alloc_new w1 _ _ _
  have HR : Hid (StrAt (w1.alloc (.cells #[.slice a1 ss.length c1, .int .i64 0] 82)) w1.heap.size w.heap.size ss 0) := hr
  clear hr ho1
  go_wp2
  go_ret
  exact ⟨_, _, rfl, HR.out, hg1.alloc _, Nat.le_refl _, by omega⟩
end Go.Proofs.Ytpkoiogdkaklfaa
