/-
  A frame as it lies in memory: its flags, its page's number, its bytes; the walks of Free, Pin, Unpin. Conditions: each theorem's own.
-/
import Derived.Test.YtgpigllimoafaaaLibA
import Derived.Test.YtgpigllimoafaaaArr
import Derived.Test.YtgpigllimoafaaaAround
import Derived.Test.YtgpigllimoafaaaCelA
import Derived.Deep.MidRow
namespace Go.Proofs.Ytgpigllimoafaaa
open Go.RowKit
set_option linter.unusedVariables false
set_option linter.unusedSimpArgs false

/-- what a frame has -/
structure FS where
  u : Bool
  d : Bool
  r : Bool
  p : Int
  q : Int
  bs : List Int

/-- the cells ahead of a frame's bytes -/
def FS.head (s : FS) : List Value := [.bool s.u, .bool s.d, .bool s.r, .int .i64 s.p, .int .i64 s.q]
/-- a frame at b -/
def FrAt (w : World) (b : Nat) (u d r : Bool) (p q : Int) (bs : List Int) : Prop :=
  VarAt w b [.bool u, .bool d, .bool r, .int .i64 p, .int .i64 q] ∧ OwnV (Value.int .u8) 0 (fun i => i = b) w (.slice (some ⟨b, 5, none⟩) 32 32) bs

theorem FrAt.lt {w : World} {b : Nat} {u d r : Bool} {p q : Int} {bs : List Int} (h : FrAt w b u d r p q bs) : b < w.heap.size := h.1.lt
theorem FrAt.len {w : World} {b : Nat} {u d r : Bool} {p q : Int} {bs : List Int} (h : FrAt w b u d r p q bs) : bs.length = 32 := (h.2.rd.caps).1.symm
theorem FrAt.upd {S : Nat → Prop} {w w' : World} {b : Nat} {u d r : Bool} {p q : Int} {bs : List Int} (h : FrAt w b u d r p q bs) (hu : UpdS S w w') (hb : ¬ S b) : FrAt w' b u d r p q bs :=
  ⟨h.1.upd hu hb, h.2.upd hu (fun i _ e => by rw [e]; exact hb)⟩
theorem FrAt.grow {w w' : World} {b : Nat} {u d r : Bool} {p q : Int} {bs : List Int} (h : FrAt w b u d r p q bs) (hu : Grow w w') : FrAt w' b u d r p q bs := ⟨h.1.grow hu, h.2.grow hu⟩
/-- the five, each by itself -/
theorem FrAt.five {w : World} {b : Nat} {u d r : Bool} {p q : Int} {bs : List Int} (h : FrAt w b u d r p q bs) :
    (w.cell? ⟨b, 0, none⟩ = some (.bool u) ∧ w.cell? ⟨b, 1, none⟩ = some (.bool d) ∧ w.cell? ⟨b, 2, none⟩ = some (.bool r) ∧ w.cell? ⟨b, 3, none⟩ = some (.int .i64 p) ∧ w.cell? ⟨b, 4, none⟩ = some (.int .i64 q)) ∧
    (w.frozen? ⟨b, 0, none⟩ = false ∧ w.frozen? ⟨b, 1, none⟩ = false ∧ w.frozen? ⟨b, 2, none⟩ = false ∧ w.frozen? ⟨b, 3, none⟩ = false ∧ w.frozen? ⟨b, 4, none⟩ = false) :=
  have h := h.1
  ⟨⟨(h.2 0 (by simp)).1, (h.2 1 (by simp)).1, (h.2 2 (by simp)).1, (h.2 3 (by simp)).1, (h.2 4 (by simp)).1⟩, (h.2 0 (by simp)).2, (h.2 1 (by simp)).2, (h.2 2 (by simp)).2, (h.2 3 (by simp)).2, (h.2 4 (by simp)).2⟩
/-- a cell ahead of a row set: the row stays -/
theorem OwnV.ahead {α : Type} {f : α → Value} {d : α} {p : Nat → Prop} {w : World} {b o n c : Nat} {zs : List α} (h : OwnV f d p w (.slice (some ⟨b, o, none⟩) n c) zs) (j : Nat) (hj : j < o) (x : Value) : OwnV f d p (w.setCell ⟨b, j, none⟩ x) (.slice (some ⟨b, o, none⟩) n c) zs := by
  rcases h with h | ⟨g, og, c', hv, hb, h0, hnc, hcm, hc, ht⟩
  · exact .inl h
  · injection hv with e1 e2 e3
    injection e1 with e1
    injection e1 with eb eo
    subst eb eo e3
    have hne : ∀ i, (⟨b, j, none⟩ : Addr) ≠ ⟨b, o + i, none⟩ := fun i e => by injection e with _ e2; omega
    refine .inr ⟨b, o, c, by rw [e2], hb, h0, hnc, hcm, fun i hi => ?_, fun i hi => ?_⟩
    · rw [World.cell?_setCell_other _ _ _ _ (hne i)]; exact hc i hi
    · rw [World.cell?_setCell_other _ _ _ _ (hne i), World.frozen?_setCell]; exact ht i hi
theorem FrAt.setU {w : World} {b : Nat} {u d r : Bool} {p q : Int} {bs : List Int} (h : FrAt w b u d r p q bs) (x : Bool) : FrAt (w.setCell ⟨b, 0, none⟩ (.bool x)) b x d r p q bs := ⟨h.1.set 0 _, h.2.ahead 0 (by omega) _⟩
theorem FrAt.setD {w : World} {b : Nat} {u d r : Bool} {p q : Int} {bs : List Int} (h : FrAt w b u d r p q bs) (x : Bool) : FrAt (w.setCell ⟨b, 1, none⟩ (.bool x)) b u x r p q bs := ⟨h.1.set 1 _, h.2.ahead 1 (by omega) _⟩
theorem FrAt.setR {w : World} {b : Nat} {u d r : Bool} {p q : Int} {bs : List Int} (h : FrAt w b u d r p q bs) (x : Bool) : FrAt (w.setCell ⟨b, 2, none⟩ (.bool x)) b u d x p q bs := ⟨h.1.set 2 _, h.2.ahead 2 (by omega) _⟩
theorem FrAt.setP {w : World} {b : Nat} {u d r : Bool} {p q : Int} {bs : List Int} (h : FrAt w b u d r p q bs) (x : Int) : FrAt (w.setCell ⟨b, 3, none⟩ (.int .i64 x)) b u d r x q bs := ⟨h.1.set 3 _, h.2.ahead 3 (by omega) _⟩
theorem FrAt.setQ {w : World} {b : Nat} {u d r : Bool} {p q : Int} {bs : List Int} (h : FrAt w b u d r p q bs) (x : Int) : FrAt (w.setCell ⟨b, 4, none⟩ (.int .i64 x)) b u d r p x bs := ⟨h.1.set 4 _, h.2.ahead 4 (by omega) _⟩
/-- its bytes alone turned -/
theorem FrAt.setB {w w' : World} {b : Nat} {u d r : Bool} {p q : Int} {bs ys : List Int} (h : FrAt w b u d r p q bs) (hu : w' = w.setCells b 5 (ys.map (Value.int .u8))) (ho : OwnV (Value.int .u8) 0 (fun i => i = b) w' (.slice (some ⟨b, 5, none⟩) 32 32) ys) : FrAt w' b u d r p q ys := by
  subst hu
  refine ⟨⟨Nat.lt_of_lt_of_le h.lt (updS_cells b 5 _ w).size, fun j hj => ?_⟩, ho⟩
  have hj5 : j < 5 := by simpa using hj
  rw [World.cell?_setCells_out b _ _ _ _ (fun _ _ => Or.inl hj5), World.frozen?_setCells]
  exact h.1.2 j hj

/-- the empty frame's cells -/
def zeroF : Array Value := #[.bool false, .bool false, .bool false, .int .i64 0, .int .i64 0] ++ (Array.replicate 32 (.int .u8 0))
theorem zero_frame (w : World) : (zeroValue 52).run Try.prog w = .ok (.agg zeroF) w := by kernel_rfl


set_option maxHeartbeats 1000000 in
theorem free_any (w : World) (b : Nat) (u d r : Bool) (p q : Int) (bs : List Int) (h : FrAt w b u d r p q bs) : Calls Try.prog 52 #[.pointer (some ⟨b, 0, none⟩)] w fun e w' => e = .returned (.bool (decide (p ≤ 0))) ∧ w = w' := by
  obtain ⟨⟨-, -, -, c3, -⟩, -⟩ := h.five
  clear h
  go_enter Try.func52, Try.ntmps52
  go_wp2
  go_ret
  exact ⟨rfl, rfl⟩

set_option maxHeartbeats 1000000 in
theorem pin_unused (w : World) (b : Nat) (u d r : Bool) (p q : Int) (bs : List Int) (h : FrAt w b u d r p q bs) (hu : u = false) : Calls Try.prog 44 #[.pointer (some ⟨b, 0, none⟩)] w fun e w' => e = .returned (.int .i64 6) ∧ w = w' := by
  subst hu
  obtain ⟨⟨c0, -, -, c3, -⟩, -⟩ := h.five
  clear h
  go_enter Try.func44, Try.ntmps44
  go_wp2
  go_ret
  exact ⟨rfl, rfl⟩

set_option maxHeartbeats 1000000 in
theorem pin_full (w : World) (b : Nat) (u d r : Bool) (p q : Int) (bs : List Int) (h : FrAt w b u d r p q bs) (hu : u = true) (hp : 100 ≤ p) : Calls Try.prog 44 #[.pointer (some ⟨b, 0, none⟩)] w fun e w' => e = .returned (.int .i64 13) ∧ w = w' := by
  subst hu
  obtain ⟨⟨c0, -, -, c3, -⟩, -⟩ := h.five
  clear h
  go_enter Try.func44, Try.ntmps44
  go_wp2
  go_ret
  exact ⟨rfl, rfl⟩

set_option maxHeartbeats 1000000 in
theorem pin_yes (w : World) (b : Nat) (u d r : Bool) (p q : Int) (bs : List Int) (h : FrAt w b u d r p q bs) (hu : u = true) (hp0 : 0 ≤ p) (hp : p < 100) : Calls Try.prog 44 #[.pointer (some ⟨b, 0, none⟩)] w fun e w' => e = .returned (.int .i64 0) ∧ FrAt w' b true d true (p + 1) q bs ∧ UpdS (fun i => i = b) w w' := by
  subst hu
  have H : Hid (FrAt ((w.setCell ⟨b, 3, none⟩ (.int .i64 (p + 1))).setCell ⟨b, 2, none⟩ (.bool true)) b true d true (p + 1) q bs ∧ UpdS (fun i => i = b) w ((w.setCell ⟨b, 3, none⟩ (.int .i64 (p + 1))).setCell ⟨b, 2, none⟩ (.bool true))) := ⟨(h.setP _).setR _, (upd_one w b 3 _).trans (upd_one _ b 2 _)⟩
  obtain ⟨⟨c0, -, c2, c3, -⟩, -, -, f2, f3, -⟩ := h.five
  have hn : ¬ 100 ≤ p := by omega
  have hw : IntKind.i64.wrap (p + 1) = p + 1 := by rw [IntKind.wrap_i64]; omega
  clear h
  go_enter Try.func44, Try.ntmps44
  go_wp2
  go_ret
  exact ⟨rfl, H.out.1, H.out.2⟩

set_option maxHeartbeats 1000000 in
theorem unpin_no (w : World) (b : Nat) (u d r : Bool) (p q : Int) (bs : List Int) (h : FrAt w b u d r p q bs) (hp : p ≤ 0) : Calls Try.prog 47 #[.pointer (some ⟨b, 0, none⟩)] w fun e w' => e = .returned (.int .i64 6) ∧ w = w' := by
  have hf := free_any w b u d r p q bs h
  rw [decide_eq_true hp] at hf
  clear h
  go_enter Try.func47, Try.ntmps47
  go_wp2_with fail
  refine hf.mono ?_
  rintro e w1 ⟨rfl, rfl⟩
  go_wp2
  go_ret
  exact ⟨rfl, rfl⟩

set_option maxHeartbeats 1000000 in
theorem unpin_yes (w : World) (b : Nat) (u d r : Bool) (p q : Int) (bs : List Int) (h : FrAt w b u d r p q bs) (hp0 : 0 < p) (hp : p ≤ 100) : Calls Try.prog 47 #[.pointer (some ⟨b, 0, none⟩)] w fun e w' => e = .returned (.int .i64 0) ∧ FrAt w' b u d r (p - 1) q bs ∧ UpdS (fun i => i = b) w w' := by
  have hf := free_any w b u d r p q bs h
  rw [decide_eq_false (by omega)] at hf
  have H : Hid (FrAt (w.setCell ⟨b, 3, none⟩ (.int .i64 (p - 1))) b u d r (p - 1) q bs ∧ UpdS (fun i => i = b) w (w.setCell ⟨b, 3, none⟩ (.int .i64 (p - 1)))) := ⟨h.setP _, upd_one w b 3 _⟩
  obtain ⟨⟨-, -, -, c3, -⟩, -, -, -, f3, -⟩ := h.five
  have hw : IntKind.i64.wrap (p - 1) = p - 1 := by rw [IntKind.wrap_i64]; omega
  clear h
  go_enter Try.func47, Try.ntmps47
  go_wp2_with fail
  refine hf.mono ?_
  rintro e w1 ⟨rfl, rfl⟩
  go_wp2
  go_ret
  exact ⟨rfl, H.out.1, H.out.2⟩
end Go.Proofs.Ytgpigllimoafaaa
