/-
  A table of capabilities as it lies in memory; the walks of empty, generation, Root, good. Conditions: each theorem's own.
-/
import Derived.Test.YtoobohbghobfhaaCapMath
import Derived.Test.YtoobohbghobfhaaVars
import Derived.Test.YtoobohbghobfhaaRig
import Derived.Test.YtoobohbghobfhaaEnds
import Derived.Test.YtoobohbghobfhaaLast
import Derived.Deep.MidRow
import Derived.Deep.LoopGhost
namespace Go.Proofs.Ytoobohbghobfhaa
open Go.RowKit
set_option linter.unusedVariables false
set_option linter.unusedSimpArgs false

theorem hid {p : Prop} (h : p) : Hid p := h
/-- a table at b -/
def TbAt (w : World) (b : Nat) (S : List Sl) (k n : Int) : Prop := VarAt w b (S.flatMap Sl.cs ++ ([.int .i64 k, .int .i64 n] : List Value))
theorem eight {S : List Sl} (h : S.length = 8) : ∃ x0 x1 x2 x3 x4 x5 x6 x7, S = [x0, x1, x2, x3, x4, x5, x6, x7] := by
  match S, h with
  | [x0, x1, x2, x3, x4, x5, x6, x7], _ => exact ⟨x0, x1, x2, x3, x4, x5, x6, x7, rfl⟩
theorem lt8 {i : Nat} (h : i < 8) : i = 0 ∨ i = 1 ∨ i = 2 ∨ i = 3 ∨ i = 4 ∨ i = 5 ∨ i = 6 ∨ i = 7 := by omega
theorem flat24 {S : List Sl} (h : S.length = 8) : (S.flatMap Sl.cs).length = 24 := by rw [flat_length slk, h]
theorem TbAt.upd {P : Nat → Prop} {w w' : World} {b : Nat} {S : List Sl} {k n : Int} (h : TbAt w b S k n) (hu : UpdS P w w') (hb : ¬ P b) : TbAt w' b S k n := VarAt.upd h hu hb
theorem TbAt.grow {w w' : World} {b : Nat} {S : List Sl} {k n : Int} (h : TbAt w b S k n) (hu : Grow w w') : TbAt w' b S k n := VarAt.grow h hu
theorem TbAt.lt {w : World} {b : Nat} {S : List Sl} {k n : Int} (h : TbAt w b S k n) : b < w.heap.size := h.1
theorem TbAt.sl {w : World} {b : Nat} {S : List Sl} {k n : Int} (h : TbAt w b S k n) (hS : S.length = 8) {i : Nat} (hi : i < 8) :
    (w.cell? ⟨b, i * 3, none⟩ = some (.int .i64 (S.getD i Sl.zero).s) ∧ w.cell? ⟨b, i * 3 + 1, none⟩ = some (.int .i64 (S.getD i Sl.zero).g) ∧ w.cell? ⟨b, i * 3 + 2, none⟩ = some (.int .i64 (S.getD i Sl.zero).r)) ∧
    (w.frozen? ⟨b, i * 3, none⟩ = false ∧ w.frozen? ⟨b, i * 3 + 1, none⟩ = false ∧ w.frozen? ⟨b, i * 3 + 2, none⟩ = false) := by
  have hl := flat24 hS
  have hlen : (S.flatMap Sl.cs ++ ([.int .i64 k, .int .i64 n] : List Value)).length = 26 := by rw [List.length_append, hl]; rfl
  have key : ∀ m, m < 3 → w.cell? ⟨b, i * 3 + m, none⟩ = (S.getD i Sl.zero).cs[m]? ∧ w.frozen? ⟨b, i * 3 + m, none⟩ = false := fun m hm => by
    obtain ⟨h1, h2⟩ := h.2 (i * 3 + m) (by rw [hlen]; omega)
    refine ⟨?_, h2⟩
    rw [h1, List.getElem?_append_left (by omega), flat_get slk Sl.zero S i m (by omega) hm]
  exact ⟨⟨(key 0 (by omega)).1, (key 1 (by omega)).1, (key 2 (by omega)).1⟩, (key 0 (by omega)).2, (key 1 (by omega)).2, (key 2 (by omega)).2⟩
theorem TbAt.kn {w : World} {b : Nat} {S : List Sl} {k n : Int} (h : TbAt w b S k n) (hS : S.length = 8) :
    (w.cell? ⟨b, 24, none⟩ = some (.int .i64 k) ∧ w.cell? ⟨b, 25, none⟩ = some (.int .i64 n)) ∧ w.frozen? ⟨b, 24, none⟩ = false ∧ w.frozen? ⟨b, 25, none⟩ = false := by
  have hl := flat24 hS
  have hlen : (S.flatMap Sl.cs ++ ([.int .i64 k, .int .i64 n] : List Value)).length = 26 := by rw [List.length_append, hl]; rfl
  obtain ⟨a1, a2⟩ := h.2 24 (by rw [hlen]; omega)
  obtain ⟨c1, c2⟩ := h.2 25 (by rw [hlen]; omega)
  rw [List.getElem?_append_right (by omega), hl] at a1 c1
  exact ⟨⟨a1, c1⟩, a2, c2⟩
theorem TbAt.put {w : World} {b : Nat} {S : List Sl} {k n : Int} (h : TbAt w b S k n) (hS : S.length = 8) {i : Nat} (hi : i < 8) (x : Sl) :
    TbAt (((w.setCell ⟨b, i * 3, none⟩ (.int .i64 x.s)).setCell ⟨b, i * 3 + 1, none⟩ (.int .i64 x.g)).setCell ⟨b, i * 3 + 2, none⟩ (.int .i64 x.r)) b (S.set i x) k n := by
  have := ((VarAt.set h (i * 3) (.int .i64 x.s)).set (i * 3 + 1) (.int .i64 x.g)).set (i * 3 + 2) (.int .i64 x.r)
  have e : (((S.flatMap Sl.cs ++ ([.int .i64 k, .int .i64 n] : List Value)).set (i * 3) (.int .i64 x.s)).set (i * 3 + 1) (.int .i64 x.g)).set (i * 3 + 2) (.int .i64 x.r) = (S.set i x).flatMap Sl.cs ++ ([.int .i64 k, .int .i64 n] : List Value) := by
    obtain ⟨x0, x1, x2, x3, x4, x5, x6, x7, rfl⟩ := eight hS
    rcases lt8 hi with rfl | rfl | rfl | rfl | rfl | rfl | rfl | rfl <;> rfl
  rw [e] at this
  exact this
theorem TbAt.out {w : World} {b : Nat} {S : List Sl} {k n : Int} (h : TbAt w b S k n) (hS : S.length = 8) (m : Int) : TbAt (w.setCell ⟨b, 25, none⟩ (.int .i64 m)) b S k m := by
  have := VarAt.set h 25 (.int .i64 m)
  have e : (S.flatMap Sl.cs ++ ([.int .i64 k, .int .i64 n] : List Value)).set 25 (.int .i64 m) = S.flatMap Sl.cs ++ ([.int .i64 k, .int .i64 m] : List Value) := by
    obtain ⟨x0, x1, x2, x3, x4, x5, x6, x7, rfl⟩ := eight hS
    rfl
  rw [e] at this
  exact this
theorem upd_slot (w : World) (b i : Nat) (x y z : Value) : UpdS (fun k => k = b) w (((w.setCell ⟨b, i * 3, none⟩ x).setCell ⟨b, i * 3 + 1, none⟩ y).setCell ⟨b, i * 3 + 2, none⟩ z) :=
  ((upd_one w b _ x).trans (upd_one _ b _ y)).trans (upd_one _ b _ z)
/-- the row of slots, at once -/
theorem TbAt.range {w : World} {b : Nat} {S : List Sl} {k n : Int} (h : TbAt w b S k n) (hS : S.length = 8) : w.rangeAt b 0 (S.flatMap Sl.cs) := fun j v hv => by
  have hl := flat24 hS
  have hj : j < 24 := by
    have := (List.getElem?_eq_some_iff.1 hv).1
    rwa [hl] at this
  have hlen : (S.flatMap Sl.cs ++ ([.int .i64 k, .int .i64 n] : List Value)).length = 26 := by rw [List.length_append, hl]; rfl
  rw [Nat.zero_add, (h.2 j (by rw [hlen]; omega)).1, List.getElem?_append_left (by omega)]
  exact hv
theorem infoA8 : (Try.prog.info? 69).map (·.size) = some 24 := by kernel_rfl
theorem index_sl (S : List Sl) (hS : S.length = 8) (i : Nat) (hi : i < 8) (w : World) : (Instr.index 69 (.agg (S.flatMap Sl.cs).toArray) (.int .i64 i)).run Try.prog w = .ok (.agg #[.int .i64 (S.getD i Sl.zero).s, .int .i64 (S.getD i Sl.zero).g, .int .i64 (S.getD i Sl.zero).r]) w := by
  obtain ⟨x0, x1, x2, x3, x4, x5, x6, x7, rfl⟩ := eight hS
  rcases lt8 hi with rfl | rfl | rfl | rfl | rfl | rfl | rfl | rfl <;> kernel_rfl

set_option maxHeartbeats 1000000 in
theorem empty_any (x : Sl) (w : World) : Calls Try.prog 36 #[.agg #[.int .i64 x.s, .int .i64 x.g, .int .i64 x.r]] w fun e w' => e = .returned (.bool x.emp) ∧ Grow w w' := by
  obtain ⟨s, g, r⟩ := x
  simp only
  have hgr : Grow w (w.alloc (.cells #[.int .i64 s, .int .i64 g, .int .i64 r] 68)) := (Grow.refl w).alloc _
  by_cases hs : s = 0
  · by_cases hg : g = 0
    · have e0 : (s == 0) = true := by simp; omega
      have e1 : (g == 0) = true := by simp; omega
      have HE : Hid ((⟨s, g, r⟩ : Sl).emp = true) := by show (⟨s, g, r⟩ : Sl).emp = true; simp [Sl.emp, hs, hg]
      clear hs hg
      go_enter Try.func36, Try.ntmps36
      go_wp2
      go_ret
      exact ⟨by rw [HE.out]; rfl, hgr⟩
    · have e0 : (s == 0) = true := by simp; omega
      have e1 : (g == 0) = false := by simp; omega
      have HE : Hid ((⟨s, g, r⟩ : Sl).emp = false) := by show (⟨s, g, r⟩ : Sl).emp = false; simp [Sl.emp, hg]
      clear hs hg
      go_enter Try.func36, Try.ntmps36
      go_wp2
      go_ret
      exact ⟨by rw [HE.out]; rfl, hgr⟩
  · have e0 : (s == 0) = false := by simp; omega
    have HE : Hid ((⟨s, g, r⟩ : Sl).emp = false) := by show (⟨s, g, r⟩ : Sl).emp = false; simp [Sl.emp, hs]
    clear hs
    go_enter Try.func36, Try.ntmps36
    go_wp2
    go_ret
    exact ⟨by rw [HE.out]; rfl, hgr⟩

set_option maxHeartbeats 1000000 in
theorem gen_any (b : Nat) (S : List Sl) (k n m : Int) (w : World) (h : TbAt w b S k n) (hS : S.length = 8) (hk : 1 ≤ k) (hk2 : k ≤ 1073741824) (hm : 0 ≤ m) (hm2 : m ≤ 1048576) : Calls Try.prog 30 #[.pointer (some ⟨b, 0, none⟩), .int .i64 m] w fun e w' => e = .returned (.int .i64 (k * 1048576 + m)) ∧ w = w' := by
  obtain ⟨⟨c24, -⟩, -⟩ := h.kn hS
  have h1 : IntKind.i64.wrap (k * 1048576) = k * 1048576 := by rw [IntKind.wrap_i64]; omega
  have h2 : IntKind.i64.wrap (k * 1048576 + m) = k * 1048576 + m := by rw [IntKind.wrap_i64]; omega
  clear hk hk2 hm hm2 h
  go_enter Try.func30, Try.ntmps30
  go_wp2
  go_ret
  exact ⟨rfl, rfl⟩

theorem load_C (b : Nat) (s g : Int) (w : World) (h : VarAt w b [.int .i64 s, .int .i64 g]) : (loadVar 33 ⟨b, 0, none⟩).run Try.prog w = .ok (.agg #[.int .i64 s, .int .i64 g]) w := by
  obtain ⟨⟨h0, h1⟩, -⟩ := h.two
  go_simp

set_option maxHeartbeats 2000000 in
theorem root_any (b : Nat) (S : List Sl) (k n : Int) (w : World) (h : TbAt w b S k n) (hS : S.length = 8) (hk : 1 ≤ k) (hk2 : k ≤ 1073741824) : Calls Try.prog 12 #[.pointer (some ⟨b, 0, none⟩)] w fun e w' => e = .returned (.agg #[.int .i64 0, .int .i64 (k * 1048576)]) ∧ Grow w w' := by
  have g0 : Grow w (w.alloc (.cells #[.int .i64 0, .int .i64 0] 33)) := (Grow.refl w).alloc _
  have hc := gen_any b S k n 0 (w.alloc (.cells #[.int .i64 0, .int .i64 0] 33)) (h.grow g0) hS hk hk2 (by omega) (by omega)
  rw [Int.add_zero] at hc
  have HV : Hid (VarAt (w.alloc (.cells #[.int .i64 0, .int .i64 0] 33)) w.heap.size [.int .i64 0, .int .i64 0] ∧ Grow w (w.alloc (.cells #[.int .i64 0, .int .i64 0] 33))) := ⟨VarAt.new w [.int .i64 0, .int .i64 0] 33, g0⟩
  clear h g0 hk hk2
  go_enter Try.func12, Try.ntmps12
  go_wp2_with fail
  refine hc.mono ?_
  rintro e w1 ⟨rfl, rfl⟩
  generalize w.alloc (.cells #[.int .i64 0, .int .i64 0] 33) = W1 at HV ⊢
  obtain ⟨b1, hb1⟩ : ∃ b1, b1 = w.heap.size := ⟨_, rfl⟩
  have HB : Hid (b1 = w.heap.size) := hb1
  rw [← hb1] at HV ⊢
  clear hb1 hc
  obtain ⟨⟨m0, m1⟩, f0, f1⟩ := HV.out.1.two
  go_wp2
  have hU := upd_pair W1 b1 (.int .i64 0) (.int .i64 (k * 1048576))
  exact bodyPost_ret_by (results_cell rfl _ _ _ _ rfl (load_C b1 _ _ _ (HV.out.1.set2 _ _))) rfl ⟨rfl, UpdS.new HV.out.2 hU (fun i hi => by have := HB.out; omega)⟩
end Go.Proofs.Ytoobohbghobfhaa
