/-
  A frame that lies anywhere in a block, with others beside it: what its calls leave there, and what lies beside it. Conditions: each theorem's own.
-/
import Derived.Test.YtgpigllimoafaaaFraC
namespace Go.Proofs.Ytgpigllimoafaaa
open Go.RowKit
set_option linter.unusedVariables false
set_option linter.unusedSimpArgs false

/-- cells from a place on -/
def VarO (w : World) (b o : Nat) (vs : List Value) : Prop := b < w.heap.size ∧ ∀ j, j < vs.length → w.cell? ⟨b, o + j, none⟩ = vs[j]? ∧ w.frozen? ⟨b, o + j, none⟩ = false
theorem VarO.lt {w : World} {b o : Nat} {vs : List Value} (h : VarO w b o vs) : b < w.heap.size := h.1
theorem VarO.upd {S : Nat → Prop} {w w' : World} {b o : Nat} {vs : List Value} (h : VarO w b o vs) (hu : UpdS S w w') (hb : ¬ S b) : VarO w' b o vs :=
  ⟨Nat.lt_of_lt_of_le h.1 hu.size, fun j hj => by
    rw [hu.cell (p := ⟨b, o + j, none⟩) h.1 hb, hu.frozen (p := ⟨b, o + j, none⟩) h.1 hb]; exact h.2 j hj⟩
theorem VarO.grow {w w' : World} {b o : Nat} {vs : List Value} (h : VarO w b o vs) (hu : Grow w w') : VarO w' b o vs := h.upd (S := fun _ => False) hu.s (fun f => f)
theorem VarO.set {w : World} {b o : Nat} {vs : List Value} (h : VarO w b o vs) (j : Nat) (u : Value) : VarO (w.setCell ⟨b, o + j, none⟩ u) b o (vs.set j u) :=
  ⟨by simpa using h.1, fun m hm => by
    rw [List.length_set] at hm
    rw [World.frozen?_setCell]
    refine ⟨?_, (h.2 m hm).2⟩
    by_cases e : m = j
    · subst e
      have := (h.2 m hm).1
      rw [List.getElem?_eq_getElem hm] at this
      rw [World.cell?_setCell_same _ _ _ this, List.getElem?_set_self hm]
    · rw [World.cell?_setCell_other _ _ _ _ (by intro h; injection h with _ h2; omega), (h.2 m hm).1, List.getElem?_set_ne (Ne.symm e)]⟩

/-- what turned lies in the block b, in the n cells from o on -/
structure UpdO (b o n : Nat) (w w' : World) : Prop where
  s : UpdS (fun i => i = b) w w'
  out : ∀ k, k < o ∨ o + n ≤ k → w'.cell? ⟨b, k, none⟩ = w.cell? ⟨b, k, none⟩ ∧ w'.frozen? ⟨b, k, none⟩ = w.frozen? ⟨b, k, none⟩
theorem UpdO.refl (b o n : Nat) (w : World) : UpdO b o n w w := ⟨UpdS.refl _ _, fun _ _ => ⟨rfl, rfl⟩⟩
theorem UpdO.trans {b o n : Nat} {x y z : World} (h : UpdO b o n x y) (k : UpdO b o n y z) : UpdO b o n x z :=
  ⟨h.s.trans k.s, fun i hi => ⟨(k.out i hi).1.trans (h.out i hi).1, (k.out i hi).2.trans (h.out i hi).2⟩⟩
theorem UpdO.grow {b o n : Nat} {x y : World} (hb : b < x.heap.size) (h : Grow x y) : UpdO b o n x y :=
  ⟨h.s, fun k _ => ⟨(h.s (S := fun _ => False)).cell (p := ⟨b, k, none⟩) hb (fun f => f), (h.s (S := fun _ => False)).frozen (p := ⟨b, k, none⟩) hb (fun f => f)⟩⟩
theorem upd_o (w : World) (b o n j : Nat) (hj : j < n) (u : Value) : UpdO b o n w (w.setCell ⟨b, o + j, none⟩ u) :=
  ⟨UpdS.setCell _ _ _ _ rfl, fun k hk => ⟨World.cell?_setCell_other _ _ _ _ (by intro h; injection h with _ h2; omega), World.frozen?_setCell _ _ _ _⟩⟩
theorem upd_os (w : World) (b o n j : Nat) (us : List Value) (hj : j + us.length ≤ n) : UpdO b o n w (w.setCells b (o + j) us) :=
  ⟨updS_row b (o + j) us w, fun k hk => ⟨World.cell?_setCells_out b us (o + j) w ⟨b, k, none⟩ (fun _ _ => by show k < o + j ∨ o + j + us.length ≤ k; omega), World.frozen?_setCells _ _ _ _ _⟩⟩
/-- a part of what may turn -/
theorem UpdO.wide {b o n o' n' : Nat} {x y : World} (h : UpdO b o n x y) (h1 : o' ≤ o) (h2 : o + n ≤ o' + n') : UpdO b o' n' x y := ⟨h.s, fun k hk => h.out k (by omega)⟩
theorem VarO.beside {b o n o' : Nat} {vs : List Value} {w w' : World} (h : VarO w b o' vs) (hu : UpdO b o n w w') (ha : o' + vs.length ≤ o ∨ o + n ≤ o') : VarO w' b o' vs :=
  ⟨Nat.lt_of_lt_of_le h.1 hu.s.size, fun j hj => by rw [(hu.out (o' + j) (by omega)).1, (hu.out (o' + j) (by omega)).2]; exact h.2 j hj⟩
theorem OwnV.beside {α : Type} {f : α → Value} {d : α} {b o n o' m : Nat} {zs : List α} {w w' : World} (h : OwnV f d (fun i => i = b) w (.slice (some ⟨b, o', none⟩) m m) zs) (hu : UpdO b o n w w') (ha : o' + m ≤ o ∨ o + n ≤ o') : OwnV f d (fun i => i = b) w' (.slice (some ⟨b, o', none⟩) m m) zs := by
  rcases h with h | ⟨g, og, c', hv, hb, h0, hnc, hcm, hc, ht⟩
  · exact .inl h
  · injection hv with e1 e2 e3
    injection e1 with e1
    injection e1 with eb eo
    subst eb eo e3
    refine .inr ⟨b, o', m, by rw [e2], hb, h0, hnc, hcm, fun i hi => ?_, fun i hi => ?_⟩
    · rw [(hu.out (o' + i) (by omega)).1]; exact hc i hi
    · rw [(hu.out (o' + i) (by omega)).1, (hu.out (o' + i) (by omega)).2]; exact ht i hi

/-- a frame from the place o on in the block b -/
def FrO (w : World) (b o : Nat) (u d r : Bool) (p q : Int) (bs : List Int) : Prop :=
  VarO w b o [.bool u, .bool d, .bool r, .int .i64 p, .int .i64 q] ∧ OwnV (Value.int .u8) 0 (fun i => i = b) w (.slice (some ⟨b, o + 5, none⟩) 32 32) bs
theorem FrO.beside {b o o' : Nat} {w w' : World} {u d r : Bool} {p q : Int} {bs : List Int} (h : FrO w b o' u d r p q bs) (hu : UpdO b o 37 w w') (ha : o' + 37 ≤ o ∨ o + 37 ≤ o') : FrO w' b o' u d r p q bs :=
  ⟨h.1.beside hu (by show o' + 5 ≤ o ∨ o + 37 ≤ o'; omega), h.2.beside hu (by omega)⟩
theorem FrO.of {w : World} {b : Nat} {u d r : Bool} {p q : Int} {bs : List Int} (h : FrAt w b u d r p q bs) : FrO w b 0 u d r p q bs :=
  ⟨⟨h.1.1, fun j hj => by rw [Nat.zero_add]; exact h.1.2 j hj⟩, h.2⟩
theorem FrO.at {w : World} {b : Nat} {u d r : Bool} {p q : Int} {bs : List Int} (h : FrO w b 0 u d r p q bs) : FrAt w b u d r p q bs :=
  ⟨⟨h.1.1, fun j hj => by have := h.1.2 j hj; rwa [Nat.zero_add] at this⟩, h.2⟩
theorem FrO.lt {w : World} {b o : Nat} {u d r : Bool} {p q : Int} {bs : List Int} (h : FrO w b o u d r p q bs) : b < w.heap.size := h.1.lt
theorem FrO.len {w : World} {b o : Nat} {u d r : Bool} {p q : Int} {bs : List Int} (h : FrO w b o u d r p q bs) : bs.length = 32 := (h.2.rd.caps).1.symm
theorem FrO.upd {S : Nat → Prop} {w w' : World} {b o : Nat} {u d r : Bool} {p q : Int} {bs : List Int} (h : FrO w b o u d r p q bs) (hu : UpdS S w w') (hb : ¬ S b) : FrO w' b o u d r p q bs :=
  ⟨h.1.upd hu hb, h.2.upd hu (fun i _ e => by rw [e]; exact hb)⟩
theorem FrO.grow {w w' : World} {b o : Nat} {u d r : Bool} {p q : Int} {bs : List Int} (h : FrO w b o u d r p q bs) (hu : Grow w w') : FrO w' b o u d r p q bs := ⟨h.1.grow hu, h.2.grow hu⟩
/-- the five, each by itself -/
theorem FrO.five {w : World} {b o : Nat} {u d r : Bool} {p q : Int} {bs : List Int} (h : FrO w b o u d r p q bs) :
    (w.cell? ⟨b, o, none⟩ = some (.bool u) ∧ w.cell? ⟨b, o + 1, none⟩ = some (.bool d) ∧ w.cell? ⟨b, o + 2, none⟩ = some (.bool r) ∧ w.cell? ⟨b, o + 3, none⟩ = some (.int .i64 p) ∧ w.cell? ⟨b, o + 4, none⟩ = some (.int .i64 q)) ∧
    (w.frozen? ⟨b, o, none⟩ = false ∧ w.frozen? ⟨b, o + 1, none⟩ = false ∧ w.frozen? ⟨b, o + 2, none⟩ = false ∧ w.frozen? ⟨b, o + 3, none⟩ = false ∧ w.frozen? ⟨b, o + 4, none⟩ = false) :=
  have h := h.1
  ⟨⟨(h.2 0 (by simp)).1, (h.2 1 (by simp)).1, (h.2 2 (by simp)).1, (h.2 3 (by simp)).1, (h.2 4 (by simp)).1⟩, (h.2 0 (by simp)).2, (h.2 1 (by simp)).2, (h.2 2 (by simp)).2, (h.2 3 (by simp)).2, (h.2 4 (by simp)).2⟩
theorem FrO.setU {w : World} {b o : Nat} {u d r : Bool} {p q : Int} {bs : List Int} (h : FrO w b o u d r p q bs) (x : Bool) : FrO (w.setCell ⟨b, o, none⟩ (.bool x)) b o x d r p q bs := ⟨h.1.set 0 _, h.2.ahead o (by omega) _⟩
theorem FrO.setD {w : World} {b o : Nat} {u d r : Bool} {p q : Int} {bs : List Int} (h : FrO w b o u d r p q bs) (x : Bool) : FrO (w.setCell ⟨b, o + 1, none⟩ (.bool x)) b o u x r p q bs := ⟨h.1.set 1 _, h.2.ahead (o + 1) (by omega) _⟩
theorem FrO.setR {w : World} {b o : Nat} {u d r : Bool} {p q : Int} {bs : List Int} (h : FrO w b o u d r p q bs) (x : Bool) : FrO (w.setCell ⟨b, o + 2, none⟩ (.bool x)) b o u d x p q bs := ⟨h.1.set 2 _, h.2.ahead (o + 2) (by omega) _⟩
theorem FrO.setP {w : World} {b o : Nat} {u d r : Bool} {p q : Int} {bs : List Int} (h : FrO w b o u d r p q bs) (x : Int) : FrO (w.setCell ⟨b, o + 3, none⟩ (.int .i64 x)) b o u d r x q bs := ⟨h.1.set 3 _, h.2.ahead (o + 3) (by omega) _⟩
theorem FrO.setQ {w : World} {b o : Nat} {u d r : Bool} {p q : Int} {bs : List Int} (h : FrO w b o u d r p q bs) (x : Int) : FrO (w.setCell ⟨b, o + 4, none⟩ (.int .i64 x)) b o u d r p x bs := ⟨h.1.set 4 _, h.2.ahead (o + 4) (by omega) _⟩
/-- its bytes alone turned -/
theorem FrO.setB {w w' : World} {b o : Nat} {u d r : Bool} {p q : Int} {bs ys : List Int} (h : FrO w b o u d r p q bs) (hu : w' = w.setCells b (o + 5) (ys.map (Value.int .u8))) (ho : OwnV (Value.int .u8) 0 (fun i => i = b) w' (.slice (some ⟨b, o + 5, none⟩) 32 32) ys) : FrO w' b o u d r p q ys := by
  subst hu
  refine ⟨⟨Nat.lt_of_lt_of_le h.lt (updS_row b (o + 5) _ w).size, fun j hj => ?_⟩, ho⟩
  have hj5 : j < 5 := by simpa using hj
  rw [World.cell?_setCells_out b _ _ _ _ (fun _ _ => Or.inl (by show o + j < o + 5; omega)), World.frozen?_setCells]
  exact h.1.2 j hj


set_option maxHeartbeats 1000000 in
theorem ofree_any (w : World) (b o : Nat) (u d r : Bool) (p q : Int) (bs : List Int) (h : FrO w b o u d r p q bs) : Calls Try.prog 52 #[.pointer (some ⟨b, o, none⟩)] w fun e w' => e = .returned (.bool (decide (p ≤ 0))) ∧ w = w' := by
  obtain ⟨⟨-, -, -, c3, -⟩, -⟩ := h.five
  clear h
  go_enter Try.func52, Try.ntmps52
  go_wp2
  go_ret
  exact ⟨rfl, rfl⟩

set_option maxHeartbeats 1000000 in
theorem opin_unused (w : World) (b o : Nat) (u d r : Bool) (p q : Int) (bs : List Int) (h : FrO w b o u d r p q bs) (hu : u = false) : Calls Try.prog 44 #[.pointer (some ⟨b, o, none⟩)] w fun e w' => e = .returned (.int .i64 6) ∧ w = w' := by
  subst hu
  obtain ⟨⟨c0, -, -, c3, -⟩, -⟩ := h.five
  clear h
  go_enter Try.func44, Try.ntmps44
  go_wp2
  go_ret
  exact ⟨rfl, rfl⟩

set_option maxHeartbeats 1000000 in
theorem opin_full (w : World) (b o : Nat) (u d r : Bool) (p q : Int) (bs : List Int) (h : FrO w b o u d r p q bs) (hu : u = true) (hp : 100 ≤ p) : Calls Try.prog 44 #[.pointer (some ⟨b, o, none⟩)] w fun e w' => e = .returned (.int .i64 13) ∧ w = w' := by
  subst hu
  obtain ⟨⟨c0, -, -, c3, -⟩, -⟩ := h.five
  clear h
  go_enter Try.func44, Try.ntmps44
  go_wp2
  go_ret
  exact ⟨rfl, rfl⟩

set_option maxHeartbeats 1000000 in
theorem opin_yes (w : World) (b o : Nat) (u d r : Bool) (p q : Int) (bs : List Int) (h : FrO w b o u d r p q bs) (hu : u = true) (hp0 : 0 ≤ p) (hp : p < 100) : Calls Try.prog 44 #[.pointer (some ⟨b, o, none⟩)] w fun e w' => e = .returned (.int .i64 0) ∧ FrO w' b o true d true (p + 1) q bs ∧ UpdO b o 37 w w' := by
  subst hu
  have H : Hid (FrO ((w.setCell ⟨b, o + 3, none⟩ (.int .i64 (p + 1))).setCell ⟨b, o + 2, none⟩ (.bool true)) b o true d true (p + 1) q bs ∧ UpdO b o 37 w ((w.setCell ⟨b, o + 3, none⟩ (.int .i64 (p + 1))).setCell ⟨b, o + 2, none⟩ (.bool true))) := ⟨(h.setP _).setR _, (upd_o w b o 37 3 (by omega) _).trans (upd_o _ b o 37 2 (by omega) _)⟩
  obtain ⟨⟨c0, -, c2, c3, -⟩, -, -, f2, f3, -⟩ := h.five
  have hn : ¬ 100 ≤ p := by omega
  have hw : IntKind.i64.wrap (p + 1) = p + 1 := by rw [IntKind.wrap_i64]; omega
  clear h
  go_enter Try.func44, Try.ntmps44
  go_wp2
  go_ret
  exact ⟨rfl, H.out.1, H.out.2⟩

set_option maxHeartbeats 1000000 in
theorem ounpin_no (w : World) (b o : Nat) (u d r : Bool) (p q : Int) (bs : List Int) (h : FrO w b o u d r p q bs) (hp : p ≤ 0) : Calls Try.prog 47 #[.pointer (some ⟨b, o, none⟩)] w fun e w' => e = .returned (.int .i64 6) ∧ w = w' := by
  have hf := ofree_any w b o u d r p q bs h
  rw [decide_eq_true hp] at hf
  clear h
  go_enter Try.func47, Try.ntmps47
  go_wp2_with fail
  refine hf.mono ?_
  rintro e w1 ⟨rfl, rfl⟩
  go_wp2
  go_ret
  exact ⟨rfl, rfl⟩

set_option maxHeartbeats 1000000 in
theorem ounpin_yes (w : World) (b o : Nat) (u d r : Bool) (p q : Int) (bs : List Int) (h : FrO w b o u d r p q bs) (hp0 : 0 < p) (hp : p ≤ 100) : Calls Try.prog 47 #[.pointer (some ⟨b, o, none⟩)] w fun e w' => e = .returned (.int .i64 0) ∧ FrO w' b o u d r (p - 1) q bs ∧ UpdO b o 37 w w' := by
  have hf := ofree_any w b o u d r p q bs h
  rw [decide_eq_false (by omega)] at hf
  have H : Hid (FrO (w.setCell ⟨b, o + 3, none⟩ (.int .i64 (p - 1))) b o u d r (p - 1) q bs ∧ UpdO b o 37 w (w.setCell ⟨b, o + 3, none⟩ (.int .i64 (p - 1)))) := ⟨h.setP _, upd_o w b o 37 3 (by omega) _⟩
  obtain ⟨⟨-, -, -, c3, -⟩, -, -, -, f3, -⟩ := h.five
  have hw : IntKind.i64.wrap (p - 1) = p - 1 := by rw [IntKind.wrap_i64]; omega
  clear h
  go_enter Try.func47, Try.ntmps47
  go_wp2_with fail
  refine hf.mono ?_
  rintro e w1 ⟨rfl, rfl⟩
  go_wp2
  go_ret
  exact ⟨rfl, H.out.1, H.out.2⟩

theorem FrO.there {w : World} {b o : Nat} {u d r : Bool} {p q : Int} {bs : List Int} (h : FrO w b o u d r p q bs) : w.there b o zeroF.size := fun j hj => by
  rw [zeroF_size] at hj
  by_cases h5 : j < 5
  · obtain ⟨h1, h2⟩ := h.1.2 j (by simpa using h5)
    rw [h1]
    refine ⟨?_, h2⟩
    rw [List.getElem?_eq_getElem (by simpa using h5)]; rfl
  · rcases h.2 with ⟨e, _, e2⟩ | ⟨g, og, c, e, hb, h0, hnc, hcm, hc, ht⟩
    · injection e2 with _ e3; cases e3
    · injection e with e1 e2 e3
      injection e1 with e1
      injection e1 with eb eo
      subst eb eo e3
      have := ht (j - 5) (by omega)
      rw [show o + 5 + (j - 5) = o + j by omega] at this
      exact this
/-- cells laid as an empty frame's -/
theorem FrO.of_range {w : World} {b o : Nat} (hr : w.rangeAt b o zeroF.toList) (hf : ∀ j, j < 37 → w.frozen? ⟨b, o + j, none⟩ = false) : FrO w b o false false false 0 0 z32 := by
  have ht : ∀ j, j < 32 → w.cell? ⟨b, o + 5 + j, none⟩ = some (.int .u8 0) := fun j hj => by rw [Nat.add_assoc]; exact hr _ _ (zeroF_tail hj)
  refine ⟨⟨World.block_lt_of_cell? _ _ (ht 0 (by omega)), fun j hj => ⟨?_, hf j (by simp at hj; omega)⟩⟩, .inr ⟨b, o + 5, 32, by rw [z32_len], rfl, by omega, by rw [z32_len]; exact Nat.le_refl _, by simp [maxLen], fun j hj => ?_, fun j hj => ⟨by rw [ht j hj]; rfl, by rw [Nat.add_assoc]; exact hf _ (by omega)⟩⟩⟩
  · have hj5 : j < 5 := by simpa using hj
    obtain ⟨v, hv⟩ : ∃ v, ([.bool false, .bool false, .bool false, .int .i64 0, .int .i64 0] : List Value)[j]? = some v := ⟨_, List.getElem?_eq_getElem (by simpa using hj5)⟩
    rw [hv]
    exact hr j v (by rw [zeroF_head hj5]; exact hv)
  · rw [z32_len] at hj
    rw [ht j hj, z32_at hj]
theorem FrO.zeroed {w : World} {b o : Nat} {u d r : Bool} {p q : Int} {bs : List Int} (h : FrO w b o u d r p q bs) : FrO (w.setCells b o zeroF.toList) b o false false false 0 0 z32 :=
  FrO.of_range (World.rangeAt_setCells_same w b o zeroF.toList (by have := h.there; rwa [← Array.length_toList] at this)) (fun j hj => by
    rw [World.frozen?_setCells]
    exact (h.there j (by rw [zeroF_size]; exact hj)).2)

/-- a copy into its bytes, of as many -/
theorem run_copyO {w : World} {b o : Nat} {u d r : Bool} {p q : Int} {bs : List Int} (h : FrO w b o u d r p q bs) {s : Nat → Prop} {x : Value} {ys : List Int} (hrd : RdV (Value.int .u8) 0 s w x ys) (hl : ys.length = 32) :
    ∃ w', (Builtin.copy_ #[42, 42] 3 #[.slice (some ⟨b, o + 5, none⟩) 32 32, x]).run Try.prog w = .ok (goInt 32) w' ∧ FrO w' b o u d r p q ys ∧ UpdO b o 37 w w' := by
  obtain ⟨i0, hi, hz0, hz1, hz2⟩ := info_parts Try.info5
  have hsz : (Try.prog.info? 5).map (·.size) = some 1 := by rw [hi]; simp [hz1]
  obtain ⟨w', hrun, ho, hu⟩ := run_copyV (P := Try.prog) 42 42 3 5 Try.underlying42 hsz h.2 hrd (by rw [h.len, hl]) (oneI .u8)
  rw [hl] at hrun
  obtain ⟨ax, cs, rfl⟩ := hrd.shape
  obtain ⟨g, og, rfl, hqb, hcell⟩ := hrd.addr (by omega)
  have hth := h.there
  have hget : ∀ j, j < ys.length → (ys.map (Value.int .u8))[j]? = some (.int .u8 (ys.getD j 0)) := fun j hj => by
    rw [List.getElem?_map, List.getElem?_eq_getElem hj]
    simp [List.getD, List.getElem?_eq_getElem hj]
  have ht : ∀ j, j < (ys.map (Value.int .u8)).length → (w.cell? ⟨b, o + 5 + j, none⟩).isSome = true ∧ w.frozen? ⟨b, o + 5 + j, none⟩ = false := fun j hj => by
    rw [List.length_map] at hj
    have := hth (5 + j) (by rw [zeroF_size]; omega)
    rwa [← Nat.add_assoc] at this
  have hrun2 := run_copy_cells (P := Try.prog) w 42 42 3 5 b (o + 5) 32 32 ⟨g, og, none⟩ ys.length cs (ys.map (Value.int .u8)) Try.underlying42 hsz (by rw [List.length_map, hl]; rfl)
    (fun j u hu' => by
      have hj : j < ys.length := by
        have := (List.getElem?_eq_some_iff.1 hu').1
        simpa using this
      rw [Addr.add_lit, hcell j hj, ← hget j hj]; exact hu')
    (fun j hj => (ht j hj).1) (fun j hj => (ht j hj).2)
    (fun u hu' => by obtain ⟨y, _, rfl⟩ := List.mem_map.1 hu'; exact oneI .u8 y)
  have hrun0 := hrun
  rw [hl] at hrun2 hrun
  rw [hrun] at hrun2
  have hw : w' = w.setCells b (o + 5) (ys.map (Value.int .u8)) := by injection hrun2
  refine ⟨w', hrun0, h.setB hw ho, ?_⟩
  rw [hw]
  exact upd_os w b o 37 5 _ (by rw [List.length_map, hl]; omega)


set_option maxHeartbeats 1000000 in
theorem ozero_any (w : World) (b o : Nat) (u d r : Bool) (p q : Int) (bs : List Int) (h : FrO w b o u d r p q bs) : Calls Try.prog 51 #[.pointer (some ⟨b, o, none⟩)] w fun e w' => e = .returned (.tuple #[]) ∧ FrO w' b o false false false 0 0 z32 ∧ UpdO b o 37 w w' := by
  have H : Hid (FrO (w.setCells b o zeroF.toList) b o false false false 0 0 z32 ∧ UpdO b o 37 w (w.setCells b o zeroF.toList)) := ⟨h.zeroed, upd_os w b o 37 0 zeroF.toList (by rw [Array.length_toList, zeroF_size]; omega)⟩
  have HT : Hid (w.there b o zeroF.size) := h.there
  clear h
  go_enter Try.func51, Try.ntmps51
  go_wp2_with (refine wpList_store_mid rfl 52 (.tmp 4) (.tmp 3) rfl b o zeroF rfl rfl HT.out zeroF_info zeroF_one ?_)
  generalize w.setCells b o zeroF.toList = w1 at H
  go_wp2
  go_end0
  exact ⟨rfl, H.out.1, H.out.2⟩


set_option maxHeartbeats 1000000 in
theorem oload_yes (w : World) (b o : Nat) (u d r : Bool) (p q : Int) (bs : List Int) (h : FrO w b o u d r p q bs) (pg : Int) (a : Option Addr) (c : Nat) (ys : List Int) (hy : RdV (Value.int .u8) 0 (fun i => i ≠ b) w (.slice a 32 c) ys) :
    Calls Try.prog 42 #[.pointer (some ⟨b, o, none⟩), .int .i64 pg, .slice a 32 c] w fun e w' => e = .returned (.int .i64 0) ∧ FrO w' b o true false false 0 pg ys ∧ UpdO b o 37 w w' := by
  have hz := ozero_any w b o u d r p q bs h
  have HY : Hid (RdV (Value.int .u8) 0 (fun i => i ≠ b) w (.slice a 32 c) ys) := hy
  have hcap := hy.caps
  have hc32 : 32 ≤ c := hcap.2.1
  have hcm : c ≤ 9223372036854775807 := hcap.2.2
  have HL : Hid (ys.length = 32) := hcap.1.symm
  clear h hy hcap
  go_enter Try.func42, Try.ntmps42
  go_wp2_with fail
  refine hz.mono ?_
  rintro e w1 ⟨rfl, hF1, hu1⟩
  have hF2 := (hF1.setU true).setQ pg
  have hu2 : UpdO b o 37 w ((w1.setCell ⟨b, o, none⟩ (.bool true)).setCell ⟨b, o + 4, none⟩ (.int .i64 pg)) := (hu1.trans (upd_o w1 b o 37 0 (by omega) _)).trans (upd_o _ b o 37 4 (by omega) _)
  obtain ⟨w3, hrun, hF3, hu3⟩ := run_copyO hF2 (HY.out.upd hu2.s (fun i _ hi => hi)) HL.out
  obtain ⟨⟨c0, -, -, -, c4⟩, f0, -, -, -, f4⟩ := hF1.five
  have HF : Hid (FrO w3 b o true false false 0 pg ys ∧ UpdO b o 37 w w3) := ⟨hF3, hu2.trans hu3⟩
  clear hF1 hF2 hF3 hu1 hu2 hu3 hz
  go_wp2
  go_ret
  exact ⟨rfl, HF.out⟩

set_option maxHeartbeats 1000000 in
theorem obytes_any (w : World) (b o : Nat) (u d r : Bool) (p q : Int) (bs : List Int) (h : FrO w b o u d r p q bs) : Calls Try.prog 49 #[.pointer (some ⟨b, o, none⟩)] w fun e w' => ∃ v', e = .returned v' ∧ OwnV (Value.int .u8) 0 (fun i => w.heap.size ≤ i) w' v' bs ∧ Grow w w' := by
  have hc := clone_some w ⟨b, o + 5, none⟩ 32 32 _ bs h.2.rd (by rw [h.len]; omega)
  clear h
  go_enter Try.func49, Try.ntmps49
  go_wp2_with fail
  refine hc.mono ?_
  rintro e w1 ⟨v1, rfl, ho1, hg1⟩
  have HO : Hid (OwnV (Value.int .u8) 0 (fun i => w.heap.size ≤ i) w1 v1 bs ∧ Grow w w1) := ⟨ho1, hg1⟩
  clear ho1 hg1 hc
  go_wp2
  go_ret
  exact ⟨_, rfl, HO.out⟩

set_option maxHeartbeats 1000000 in
theorem ofput_free (w : World) (b o : Nat) (u d r : Bool) (p q : Int) (bs : List Int) (h : FrO w b o u d r p q bs) (off : Int) (v : Value) (hp : p ≤ 0) : Calls Try.prog 45 #[.pointer (some ⟨b, o, none⟩), .int .i64 off, v] w fun e w' => e = .returned (.int .i64 6) ∧ w = w' := by
  have hf := ofree_any w b o u d r p q bs h
  rw [decide_eq_true hp] at hf
  clear h
  go_enter Try.func45, Try.ntmps45
  go_wp2_with fail
  refine hf.mono ?_
  rintro e w1 ⟨rfl, rfl⟩
  go_wp2
  go_ret
  exact ⟨rfl, rfl⟩

set_option maxHeartbeats 1000000 in
theorem ofput_err (w : World) (b o : Nat) (u d r : Bool) (p q : Int) (bs : List Int) (h : FrO w b o u d r p q bs) (off E : Int) (v : Value) (ys : List Int) (s : Nat → Prop) (hy : RdV (Value.int .u8) 0 s w v ys) (hp : 0 < p) (ho : (Lit.int .i64 off).wf = true) (hE : (putted bs off ys).2 = E) (hE0 : E ≠ 0) : Calls Try.prog 45 #[.pointer (some ⟨b, o, none⟩), .int .i64 off, v] w fun e w' => e = .returned (.int .i64 E) ∧ Grow w w' := by
  have hf := ofree_any w b o u d r p q bs h
  rw [decide_eq_false (by omega)] at hf
  have hg := putp_any _ v bs ys off _ _ w h.2.rd.i hy.i ho
  rw [hE] at hg
  generalize (putted bs off ys).1 = Z at hg
  clear h hE hy
  go_enter Try.func45, Try.ntmps45
  go_wp2_with fail
  refine hf.mono ?_
  rintro e w1 ⟨rfl, rfl⟩
  go_wp2_with fail
  refine hg.mono ?_
  rintro e w1 ⟨v1, rfl, -, hg1⟩
  go_wp2
  go_ret
  exact ⟨rfl, hg1⟩

set_option maxHeartbeats 1000000 in
theorem ofput_yes (w : World) (b o : Nat) (u d r : Bool) (p q : Int) (bs : List Int) (h : FrO w b o u d r p q bs) (off : Int) (v : Value) (ys : List Int) (s : Nat → Prop) (Z : List Int) (hy : RdV (Value.int .u8) 0 s w v ys) (hp : 0 < p) (ho : (Lit.int .i64 off).wf = true) (hE : putted bs off ys = (Z, 0)) (hZ : Z.length = 32) : Calls Try.prog 45 #[.pointer (some ⟨b, o, none⟩), .int .i64 off, v] w fun e w' => e = .returned (.int .i64 0) ∧ FrO w' b o u true true p q Z ∧ UpdO b o 37 w w' := by
  have hf := ofree_any w b o u d r p q bs h
  rw [decide_eq_false (by omega)] at hf
  have hg := putp_any _ v bs ys off _ _ w h.2.rd.i hy.i ho
  rw [hE] at hg
  have H : Hid (FrO w b o u d r p q bs ∧ Z.length = 32) := ⟨h, hZ⟩
  clear h hE hy hZ
  go_enter Try.func45, Try.ntmps45
  go_wp2_with fail
  refine hf.mono ?_
  rintro e w1 ⟨rfl, rfl⟩
  go_wp2_with fail
  refine hg.mono ?_
  rintro e w1 ⟨v1, rfl, ho1, hg1⟩
  obtain ⟨a1, c1, hv1⟩ := ho1.shape
  rw [H.out.2] at hv1
  subst hv1
  obtain ⟨w2, hrun, hF2, hu2⟩ := run_copyO (H.out.1.grow hg1) ho1.v.rd H.out.2
  have HF : Hid (FrO ((w2.setCell ⟨b, o + 2, none⟩ (.bool true)).setCell ⟨b, o + 1, none⟩ (.bool true)) b o u true true p q Z ∧ UpdO b o 37 w ((w2.setCell ⟨b, o + 2, none⟩ (.bool true)).setCell ⟨b, o + 1, none⟩ (.bool true))) :=
    ⟨(hF2.setR true).setD true, ((UpdO.trans (UpdO.grow H.out.1.lt hg1) hu2).trans (upd_o w2 b o 37 2 (by omega) _)).trans (upd_o _ b o 37 1 (by omega) _)⟩
  obtain ⟨⟨-, c1', c2', -, -⟩, -, f1, f2, -, -⟩ := hF2.five
  clear ho1 hg1 hF2 hu2 hg hf
  go_wp2
  go_ret
  exact ⟨rfl, HF.out⟩

end Go.Proofs.Ytgpigllimoafaaa
