/-
  The walk of allotmentlaw01.LayOwns: it returns true, and nothing that was there is written. Conditions: none but the reading of its arguments.
-/
import Derived.Test.YtcilbokogejicaaSync
namespace Go.Proofs.Ytcilbokogejicaa
open Go.RowKit
set_option linter.unusedVariables false
set_option linter.unusedSimpArgs false

theorem RdIn.bound {k : IntKind} {p : Nat → Prop} {B : Nat} {w : World} {v : Value} {zs : List Int} (h : RdIn k p w v zs) (hp : ∀ i, p i → i < B) : Rd k B w v zs := by
  obtain ⟨a, c, hv, h1, h2, h3⟩ := h
  exact ⟨a, c, hv, h1, h2, fun i hi => by obtain ⟨b, o, e, hb, hc⟩ := h3 i hi; exact ⟨b, o, e, hp b hb, hc⟩⟩

theorem RAt.carry {S : Nat → Prop} {w w' : World} {c B : Nat} {zs : List Int} {i : Nat} {bad : Bool} {v : Value} (h : RAt w c B zs i bad) (k : UpdS S w w') (hc : ¬ S c) (hv : w.cell? ⟨c, 0, none⟩ = some v) (hrd : Rd .u8 B w' v zs) : RAt w' c B zs i bad := by
  have hlt := h.lt
  obtain ⟨a, cp, h0, h1, h2, f0, f1, f2, hr, hB⟩ := h
  rw [h0] at hv
  injection hv with hv
  subst hv
  refine ⟨a, cp, ?_, ?_, ?_, ?_, ?_, ?_, hrd, hB⟩
  · rw [k.cell (p := ⟨c, 0, none⟩) hlt hc]; exact h0
  · rw [k.cell (p := ⟨c, 1, none⟩) hlt hc]; exact h1
  · rw [k.cell (p := ⟨c, 2, none⟩) hlt hc]; exact h2
  · rw [k.frozen (p := ⟨c, 0, none⟩) hlt hc]; exact f0
  · rw [k.frozen (p := ⟨c, 1, none⟩) hlt hc]; exact f1
  · rw [k.frozen (p := ⟨c, 2, none⟩) hlt hc]; exact f2

/-- A new reader of the document's. -/
theorem RAt.made (w : World) (a : Option Addr) (cp : Nat) (zs : List Int) (t : TypeId) (h : Rd .u8 w.heap.size w (.slice a zs.length cp) zs) :
    RAt (w.alloc (.cells #[.slice a zs.length cp, .int .i64 0, .bool false] t)) w.heap.size w.heap.size zs 0 false :=
  ⟨a, cp, (World.cell?_alloc_new w _ _ 0).trans rfl, (World.cell?_alloc_new w _ _ 1).trans rfl, (World.cell?_alloc_new w _ _ 2).trans rfl,
    World.frozen?_alloc_new w _ _ 0, World.frozen?_alloc_new w _ _ 1, World.frozen?_alloc_new w _ _ 2, h.below ((Below.refl _ w).alloc (Nat.le_refl _) _), Nat.le_refl _⟩

set_option maxHeartbeats 4000000 in
theorem layOwns_walk (v0 : Value) (s0 : List Int) (a1 a2 : Int) (w : World) (hs : Rd .u8 w.heap.size w v0 s0) (hby0 : Byte s0) (w1 : (Lit.int .i64 a1).wf = true) (w2 : (Lit.int .u8 a2).wf = true) :
    Calls Try.prog 7 #[v0, .int .i64 a1, .int .u8 a2] w fun e w' => e = .returned (.bool true) ∧ Below w.heap.size w w' := by
  obtain ⟨ys, hys⟩ : ∃ ys, s0.take 24 = ys := ⟨_, rfl⟩
  have hyl : ys.length ≤ 24 := by rw [← hys, List.length_take]; omega
  have hl : ys.length ≤ 1000000 := by omega
  have hby : Byte ys := by rw [← hys]; exact hby0.take 24
  go_enter Try.func7, Try.ntmps7
  go_wp2_with fail
  refine (few_any _ s0 24 24 _ _ rfl hs (by omega)).mono ?_
  rintro e w1 ⟨v1, rfl, ho1, hg1⟩
  rw [hys] at ho1
  go_wp2_with fail
  refine (few_any _ s0 24 24 _ _ rfl (hs.below hg1) (by omega)).mono ?_
  rintro e w2 ⟨v2, rfl, ho2, hg2⟩
  rw [hys] at ho2
  have r1 := ho1.rdIn
  have ho1' := ho1.below hg2 (Nat.le_refl _)
  have g2 : Grow w w2 := Grow.trans (b := w1) hg1 hg2
  have hs1 := hg1.size
  have hs2 := hg2.size
  have r2 := ho2.rdIn
  obtain ⟨av, cv, hv2⟩ := ho2.shape
  subst hv2
  obtain ⟨c, hc⟩ : ∃ c, c = w2.heap.size := ⟨_, rfl⟩
  have hR2 := RAt.made w2 av cv ys 39 ho2.rd
  go_wp2_with fail
  have g3 : Grow w (w2.alloc (Obj.cells #[Value.slice av ys.length cv, Value.int IntKind.i64 0, Value.bool false] 39)) := g2.alloc _
  have q3 : Grow w2 (w2.alloc (Obj.cells #[Value.slice av ys.length cv, Value.int IntKind.i64 0, Value.bool false] 39)) := (Grow.refl w2).alloc _
  have z3 : (w2.alloc (Obj.cells #[Value.slice av ys.length cv, Value.int IntKind.i64 0, Value.bool false] 39)).heap.size = w2.heap.size + 1 := World.size_alloc _ _
  have v3 : (w2.alloc (Obj.cells #[Value.slice av ys.length cv, Value.int IntKind.i64 0, Value.bool false] 39)).cell? ⟨w2.heap.size, 0, none⟩ = some (.slice av ys.length cv) := (World.cell?_alloc_new w2 _ _ 0).trans rfl
  have ho13 := ho1'.below q3 (Nat.le_refl _)
  have r3 := r2.below q3 (fun i hi => hi.2)
  clear hc r2 ho1 ho1' ho2
  generalize w2.alloc (Obj.cells #[Value.slice av ys.length cv, Value.int IntKind.i64 0, Value.bool false] 39) = w3 at *
  have hcs : w.heap.size ≤ w2.heap.size := g2.size
  clear q3 g2 hg2
  generalize w2.heap.size = c at *
  refine (read_any _ ys _ _ ho13.rd hl).mono ?_
  rintro e w4 ⟨b, rfl, hr4, hg4, hb4⟩
  rw [z3] at hb4
  have hR4 := hR2.grow hg4
  have ho14 := ho13.below hg4 (Nat.le_refl _)
  have g4 := Grow.trans g3 hg4
  have r4 := r3.below hg4 (fun i hi => by have := hi.2; omega)
  have v4 : w4.cell? ⟨c, 0, none⟩ = some (.slice av ys.length cv) := by rw [hg4.cell (p := ⟨c, 0, none⟩) (by show c < _; omega)]; exact v3
  obtain ⟨L, hL⟩ : ∃ L, L = w3.heap.size := ⟨_, rfl⟩
  rw [← hL] at hr4 z3
  have hLb : L ≤ b := by omega
  clear hR2 ho13 g3 r3 v3 hg1 hs
  by_cases hy0 : ys.length = 0
  · obtain ⟨ax, cx, hv1⟩ := ho14.shape
    subst hv1
    have hy0' : ¬ (0 : Int) < (ys.length : Int) := by omega
    go_wp2
    go_loopg [11] 4 (fun k ix wr => ∃ j : Nat, ∃ (zs : List Int) (e : Int) (i : Nat) (bad : Bool), k = 4 - j ∧ j ≤ 4 ∧ ix = .int .i64 j ∧ Sync ys zs e i bad ∧ RdrAt wr b (fun k => L ≤ k ∧ k < b) zs e ∧ RAt wr c c ys i bad ∧ Grow w wr)
    case atStart => exact ⟨0, ys, 0, 0, false, rfl, Nat.zero_le _, rfl, Sync.start ys, hr4, hR4, g4⟩
    case round =>
      obtain ⟨j, zs, e, i, bad, hk, hj, rfl, hS, hr, hR, hg⟩ := hrel
      by_cases hlt : j < 4
      · have hlt' : (j : Int) < 4 := by omega
        obtain ⟨i', bad', hS', hW⟩ := hS.uint hby hl
        have HW : Hid (∀ (w : World) (c B : Nat), RAt w c B ys i bad → Calls Try.prog 20 #[.pointer (some ⟨c, 0, none⟩)] w fun en w' => en = .returned (.int .u64 (uval zs)) ∧ RAt w' c B ys i' bad' ∧ Upd c w w') := hW
        clear hW
        go_wp2_with fail
        refine (uintR_any b zs e _ hr (hS.byte hby)).mono ?_
        rintro en w5 ⟨rfl, hr5, hu5⟩
        have hR5 := hR.upd hu5 (fun j hj => by omega) (by omega)
        go_wp2_with fail
        refine (HW.out _ c c hR5).mono ?_
        rintro en w6 ⟨rfl, hR6, hu6⟩
        have hr6 := hr5.upd hu6 (by omega) (fun k hk => by omega)
        clear hr5 hR5
        go_wp2_with fail
        refine (leftR_any b _ _ _ hr6).mono ?_
        rintro en w7 ⟨rfl, rfl⟩
        have hLL := leftW_any c c ys i' bad' w6 hR6 hS'.1 hl
        rw [← hS'.len] at hLL
        have HL : Hid (Calls Try.prog 27 #[.pointer (some ⟨c, 0, none⟩)] w6 fun e w' => e = .returned (.int .i64 ((urest zs).length : Int)) ∧ Grow w6 w') := hLL
        clear hLL
        go_wp2_with fail
        refine HL.out.mono ?_
        rintro en w7 ⟨rfl, hg7⟩
        have hr7 := hr6.grow hg7
        have hR7 := hR6.grow hg7
        clear hr6 hR6 HL
        go_wp2_with fail
        refine (errnoR_any b _ _ _ hr7).mono ?_
        rintro en w8 ⟨rfl, rfl⟩
        have hEE := errnoW_any c c ys i' bad' w7 hR7
        rw [← hS'.errno] at hEE
        have HE : Hid (Calls Try.prog 25 #[.pointer (some ⟨c, 0, none⟩)] w7 fun en w' => en = .returned (.int .i64 (uerr zs e)) ∧ w7 = w') := hEE
        clear hEE
        go_wp2_with fail
        refine HE.out.mono ?_
        rintro en w8 ⟨rfl, rfl⟩
        go_wp2
        go_roundg (4 - (j + 1))
        case measure => omega
        case rel =>
          exact ⟨j + 1, urest zs, uerr zs e, i', bad', rfl, by omega, by go_num, hS', hr7, hR7, Grow.trans (UpdS.new (UpdS.new hg hu5 (fun k hk => by omega)) hu6 (fun k hk => by omega)) hg7⟩
      · obtain rfl : j = 4 := by omega
        go_wp2_with fail
        refine (lives_any _).mono ?_
        rintro en w5 ⟨rfl, hg5⟩
        go_wp2
        go_ret
        exact ⟨rfl, Grow.trans hg hg5⟩
  · rcases ho14 with ⟨h0, -⟩ | ⟨g, o, cx, hv1, hbg, hnc, hcm, hcells, hthere⟩
    · rw [h0] at hy0; exact absurd rfl hy0
    subst hv1
    have hy0' : (0 : Int) < (ys.length : Int) := by omega
    have hbd := around_bd a1 ys.length (by omega)
    obtain ⟨k, hk⟩ := Int.eq_ofNat_of_zero_le hbd.1
    rw [hk] at hbd
    obtain ⟨-, hk1⟩ := hbd
    have HA : Hid (∀ w, Calls Try.prog 18 #[.int .i64 a1, .int .i64 (ys.length : Int)] w fun e w' => e = .returned (.int .i64 (k : Int)) ∧ w = w') := fun w => by
      have := around_any a1 ys.length w (by assumption) (by omega) (by omega)
      rw [hk] at this
      exact this
    clear hk
    have hkl : k < ys.length := by omega
    have hck := hcells k hkl
    have hfk := (hthere k (by omega)).2
    have hgl : g < w1.heap.size := by
      obtain ⟨ax, cx', hv, _, _, h3⟩ := r1
      injection hv with ha _ _
      obtain ⟨b', o', e', hlt', _⟩ := h3 0 (by omega)
      rw [← ha] at e'
      injection e' with e'
      injection e' with eb eo
      have := hlt'.2
      omega
    have hu : ∀ X, UpdS (fun i => i = g) w4 (w4.setCell ⟨g, o + k, none⟩ X) := fun X => UpdS.setCell _ _ _ _ rfl
    have HR5 : Hid (∀ X, RdrAt (w4.setCell ⟨g, o + k, none⟩ X) b (fun k => L ≤ k ∧ k < b) ys 0) := fun X => hr4.upd (hu X) (by omega) (fun i hi => by have := hi.1; omega)
    have HW5 : Hid (∀ X, RAt (w4.setCell ⟨g, o + k, none⟩ X) c c ys 0 false) := fun X => hR4.carry (hu X) (by omega) v4 ((r4.upd (hu X) (fun i hi => by have := hi.1; omega)).bound (fun i hi => hi.2))
    have HG5 : Hid (∀ X, Grow w (w4.setCell ⟨g, o + k, none⟩ X)) := fun X => UpdS.new g4 (hu X) (fun i hi => by omega)
    have hk1' : (k : Int) < (ys.length : Int) := hk1
    clear hu r1 r4 v4 hr4 hR4 hcells hthere
    go_wp2_with fail
    refine (HA.out _).mono ?_
    rintro e w5 ⟨rfl, rfl⟩
    go_wp2
    go_loopg [11] 4 (fun k ix wr => ∃ j : Nat, ∃ (zs : List Int) (e : Int) (i : Nat) (bad : Bool), k = 4 - j ∧ j ≤ 4 ∧ ix = .int .i64 j ∧ Sync ys zs e i bad ∧ RdrAt wr b (fun k => L ≤ k ∧ k < b) zs e ∧ RAt wr c c ys i bad ∧ Grow w wr)
    case atStart => exact ⟨0, ys, 0, 0, false, rfl, Nat.zero_le _, rfl, Sync.start ys, HR5.out _, HW5.out _, HG5.out _⟩
    case round =>
      obtain ⟨j, zs, e, i, bad, hk, hj, rfl, hS, hr, hR, hg⟩ := hrel
      by_cases hlt : j < 4
      · have hlt' : (j : Int) < 4 := by omega
        obtain ⟨i', bad', hS', hW⟩ := hS.uint hby hl
        have HW : Hid (∀ (w : World) (c B : Nat), RAt w c B ys i bad → Calls Try.prog 20 #[.pointer (some ⟨c, 0, none⟩)] w fun en w' => en = .returned (.int .u64 (uval zs)) ∧ RAt w' c B ys i' bad' ∧ Upd c w w') := hW
        clear hW
        go_wp2_with fail
        refine (uintR_any b zs e _ hr (hS.byte hby)).mono ?_
        rintro en w5 ⟨rfl, hr5, hu5⟩
        have hR5 := hR.upd hu5 (fun j hj => by omega) (by omega)
        go_wp2_with fail
        refine (HW.out _ c c hR5).mono ?_
        rintro en w6 ⟨rfl, hR6, hu6⟩
        have hr6 := hr5.upd hu6 (by omega) (fun k hk => by omega)
        clear hr5 hR5
        go_wp2_with fail
        refine (leftR_any b _ _ _ hr6).mono ?_
        rintro en w7 ⟨rfl, rfl⟩
        have hLL := leftW_any c c ys i' bad' w6 hR6 hS'.1 hl
        rw [← hS'.len] at hLL
        have HL : Hid (Calls Try.prog 27 #[.pointer (some ⟨c, 0, none⟩)] w6 fun e w' => e = .returned (.int .i64 ((urest zs).length : Int)) ∧ Grow w6 w') := hLL
        clear hLL
        go_wp2_with fail
        refine HL.out.mono ?_
        rintro en w7 ⟨rfl, hg7⟩
        have hr7 := hr6.grow hg7
        have hR7 := hR6.grow hg7
        clear hr6 hR6 HL
        go_wp2_with fail
        refine (errnoR_any b _ _ _ hr7).mono ?_
        rintro en w8 ⟨rfl, rfl⟩
        have hEE := errnoW_any c c ys i' bad' w7 hR7
        rw [← hS'.errno] at hEE
        have HE : Hid (Calls Try.prog 25 #[.pointer (some ⟨c, 0, none⟩)] w7 fun en w' => en = .returned (.int .i64 (uerr zs e)) ∧ w7 = w') := hEE
        clear hEE
        go_wp2_with fail
        refine HE.out.mono ?_
        rintro en w8 ⟨rfl, rfl⟩
        go_wp2
        go_roundg (4 - (j + 1))
        case measure => omega
        case rel =>
          exact ⟨j + 1, urest zs, uerr zs e, i', bad', rfl, by omega, by go_num, hS', hr7, hR7, Grow.trans (UpdS.new (UpdS.new hg hu5 (fun k hk => by omega)) hu6 (fun k hk => by omega)) hg7⟩
      · obtain rfl : j = 4 := by omega
        go_wp2_with fail
        refine (lives_any _).mono ?_
        rintro en w5 ⟨rfl, hg5⟩
        go_wp2
        go_ret
        exact ⟨rfl, Grow.trans hg hg5⟩
end Go.Proofs.Ytcilbokogejicaa
