/-
  The walk of allotmentlaw01.LayReads: it returns true, and nothing that was there is written. Conditions: none but the reading of its arguments.
-/
import Derived.Test.YtcilbokogejicaaSync
import Derived.Test.YtcilbokogejicaaOpen
namespace Go.Proofs.Ytcilbokogejicaa
open Go.RowKit
set_option linter.unusedVariables false
set_option linter.unusedSimpArgs false

/-- A new reader of the document's, of bytes that lie below B. -/
theorem RAt.madeB (w : World) (a : Option Addr) (cp B : Nat) (zs : List Int) (t : TypeId) (h : Rd .u8 B w (.slice a zs.length cp) zs) (hB : B ≤ w.heap.size) :
    RAt (w.alloc (.cells #[.slice a zs.length cp, .int .i64 0, .bool false] t)) w.heap.size B zs 0 false :=
  ⟨a, cp, (World.cell?_alloc_new w _ _ 0).trans rfl, (World.cell?_alloc_new w _ _ 1).trans rfl, (World.cell?_alloc_new w _ _ 2).trans rfl,
    World.frozen?_alloc_new w _ _ 0, World.frozen?_alloc_new w _ _ 1, World.frozen?_alloc_new w _ _ 2, h.below ((Below.refl _ w).alloc hB _), hB⟩

theorem wf_i64_small (k : Nat) (h : k < 1000) : (Lit.int .i64 (k : Int)).wf = true := by
  simp [Lit.wf, IntKind.min, IntKind.max, IntKind.signed, IntKind.bits]; omega

set_option maxHeartbeats 8000000 in
set_option maxRecDepth 100000 in
theorem layReads_walk (v0 : Value) (a1 : Option Addr) (cap1 : Nat) (s0 : List Int) (ps : List (Int × Int)) (w : World) (hs : Rd .u8 w.heap.size w v0 s0) (hby0 : Byte s0) (hp : Prs .i64 w a1 ps.length cap1 ps) :
    Calls Try.prog 4 #[v0, .slice a1 ps.length cap1] w fun e w' => e = .returned (.bool true) ∧ Below w.heap.size w w' := by
  obtain ⟨ys, hys⟩ : ∃ ys, s0.take 60 = ys := ⟨_, rfl⟩
  have hyl : ys.length ≤ 60 := by rw [← hys, List.length_take]; omega
  have hl : ys.length ≤ 1000000 := by omega
  have hby : Byte ys := by rw [← hys]; exact hby0.take 60
  obtain ⟨-, hpc, hpm, hpe⟩ := hp
  unfold maxLen at hpm
  obtain ⟨N, hN⟩ : ∃ N, N = min ps.length 8 := ⟨_, rfl⟩
  have hN1 : N ≤ ps.length := by omega
  have hN2 : N ≤ 8 := by omega
  have HI : Hid (∀ j, j < N → ∃ bp op, a1 = some ⟨bp, op, none⟩ ∧ w.cell? ⟨bp, op + j * 2, none⟩ = some (.int .i64 (ps.getD j (0, 0)).1) ∧ w.cell? ⟨bp, op + j * 2 + 1, none⟩ = some (.int .i64 (ps.getD j (0, 0)).2) ∧ (Lit.int .i64 (ps.getD j (0, 0)).1).wf = true ∧ (Lit.int .i64 (ps.getD j (0, 0)).2).wf = true) := fun j hj => by
    obtain ⟨bp, op, h1, _, h2, h3, h4, h5⟩ := hpe j (by omega)
    exact ⟨bp, op, h1, h2, by rw [Nat.add_assoc]; exact h3, h4, h5⟩
  have HCl : Hid (∀ (b o : Nat) (v : Value), w.cell? ⟨b, o, none⟩ = some v → ∀ w', Grow w w' → w'.cell? ⟨b, o, none⟩ = some v) := fun b o v hc w' hg => by
    rw [hg.cell (p := ⟨b, o, none⟩) (World.block_lt_of_cell? _ _ hc)]; exact hc
  have HNL : Hid (∀ j, ¬ j < N → ¬ (j < ps.length ∧ j < 8)) := fun j hj h => by omega
  clear hpe hN
  go_enter Try.func4, Try.ntmps4
  go_wp2_with fail
  refine (few_any _ s0 60 60 _ _ rfl hs (by omega)).mono ?_
  rintro e w1 ⟨v1, rfl, ho1, hg1⟩
  rw [hys] at ho1
  go_wp2_with fail
  refine (read_any _ ys _ _ ho1.rd hl).mono ?_
  rintro e w2 ⟨b, rfl, hr2, hg2, hb2⟩
  have g2 : Grow w w2 := Grow.trans (b := w1) hg1 hg2
  have r2 := ho1.rd.below hg2
  obtain ⟨av, cv, hv1⟩ := ho1.shape
  subst hv1
  have hsz1 := hg1.size
  have hsz2 := hg2.size
  have hbl2 := hr2.lt
  have hR3 := RAt.madeB w2 av cv w1.heap.size ys 39 r2 hg2.size
  have hr3 := hr2.grow ((Grow.refl w2).alloc (Obj.cells #[Value.slice av ys.length cv, Value.int IntKind.i64 0, Value.bool false] 39))
  have g3 : Grow w (w2.alloc (Obj.cells #[Value.slice av ys.length cv, Value.int IntKind.i64 0, Value.bool false] 39)) := g2.alloc _
  have HP : Hid (∀ k, w1.heap.size ≤ k ∧ k < b → k < b) := fun k hk => hk.2
  clear ho1 hg1 hg2 g2 r2 hr2 hs
  go_wp2
  generalize w2.alloc (Obj.cells #[Value.slice av ys.length cv, Value.int IntKind.i64 0, Value.bool false] 39) = w3 at *
  generalize w2.heap.size = c at *
  generalize w1.heap.size = B at *
  obtain ⟨p, hp⟩ : ∃ p : Nat → Prop, p = fun k => B ≤ k ∧ k < b := ⟨_, rfl⟩
  rw [← hp] at hr3
  replace HP : Hid (∀ k, p k → k < b) := by rw [hp]; exact fun k hk => hk.2
  clear hp
  go_loopg [8] N (fun k ix wr => ∃ j : Nat, ∃ (zs : List Int) (e : Int) (i : Nat) (bad : Bool), k = N - j ∧ j ≤ N ∧ ix = .int .i64 j ∧ Sync ys zs e i bad ∧ RdrAt wr b p zs e ∧ RAt wr c B ys i bad ∧ Grow w wr)
  case atStart => exact ⟨0, ys, 0, 0, false, rfl, Nat.zero_le _, rfl, Sync.start ys, hr3, hR3, g3⟩
  case round =>
    clear hr3 hR3 g3
    obtain ⟨j, zs, e, i, bad, hk, hj, rfl, hS, hr, hR, hg⟩ := hrel
    by_cases hlt : j < N
    · obtain ⟨bp, op, ha1, hcx, hcy, hwx, hwy⟩ := HI.out j hlt
      subst ha1
      have hlt1 : (j : Int) < (ps.length : Int) := by omega
      have hlt8 : (j : Int) < 8 := by omega
      obtain ⟨⟨x, y⟩, hxy⟩ : ∃ q, q = ps.getD j (0, 0) := ⟨_, rfl⟩
      rw [← hxy] at hcx hcy hwx hwy
      simp only at hcx hcy hwx hwy
      clear hxy
      have kx := HCl.out _ _ _ hcx wr hg
      have hbd := around_bd x 4 (by omega)
      have hHA : ∀ w, Calls Try.prog 18 #[.int .i64 x, .int .i64 4] w fun e w' => e = .returned (.int .i64 (around x 4)) ∧ w = w' := fun w => around_any x 4 w hwx (by omega) (by omega)
      have hcase : around x 4 = 0 ∨ around x 4 = 1 ∨ around x 4 = 2 ∨ around x 4 = 3 := by omega
      clear hbd
      rcases hcase with hq | hq | hq | hq
      · rw [hq] at hHA
        have HA : Hid (∀ w, Calls Try.prog 18 #[.int .i64 x, .int .i64 4] w fun e w' => e = .returned (.int .i64 0) ∧ w = w') := hHA
        clear hHA hq
        obtain ⟨i2, bad2, hS2, hW⟩ := hS.uint hby hl
        have HW : Hid (∀ (w : World) (c B : Nat), RAt w c B ys i bad → Calls Try.prog 20 #[.pointer (some ⟨c, 0, none⟩)] w fun en w' => en = .returned (.int .u64 (uval zs)) ∧ RAt w' c B ys i2 bad2 ∧ Upd c w w') := hW
        clear hW
        go_wp2_with fail
        refine (HA.out _).mono ?_
        rintro en w5 ⟨rfl, rfl⟩
        go_wp2_with fail
        refine (uintR_any b zs e _ hr (hS.byte hby)).mono ?_
        rintro en w5 ⟨rfl, hr5, hu5⟩
        have hR5 := hR.upd hu5 (fun j hj => by omega) (by omega)
        go_wp2_with fail
        refine (HW.out _ c B hR5).mono ?_
        rintro en wX ⟨rfl, hRX, hu6⟩
        have hrX := hr5.upd hu6 (by omega) (fun k hk => by have := HP.out k hk; omega)
        have gX : Grow w wX := UpdS.new (UpdS.new hg hu5 (fun k hk => by omega)) hu6 (fun k hk => by omega)
        clear hr5 hR5 hr hR HW
        generalize urest zs = zs2 at *
        generalize uerr zs e = e2 at *
        go_wp2_with fail
        refine (errnoR_any b _ _ _ hrX).mono ?_
        rintro en w7 ⟨rfl, rfl⟩
        have hEE := errnoW_any c B ys i2 bad2 _ hRX
        rw [← hS2.errno] at hEE
        have HE : Hid (Calls Try.prog 25 #[.pointer (some ⟨c, 0, none⟩)] wX fun en w' => en = .returned (.int .i64 e2) ∧ wX = w') := hEE
        clear hEE
        go_wp2_with fail
        refine HE.out.mono ?_
        rintro en w7 ⟨rfl, rfl⟩
        clear HE
        go_wp2_with fail
        refine (leftR_any b _ _ _ hrX).mono ?_
        rintro en w7 ⟨rfl, rfl⟩
        have hLL := leftW_any c B ys i2 bad2 wX hRX hS2.1 hl
        rw [← hS2.len] at hLL
        have HL : Hid (Calls Try.prog 27 #[.pointer (some ⟨c, 0, none⟩)] wX fun e w' => e = .returned (.int .i64 (zs2.length : Int)) ∧ Grow wX w') := hLL
        clear hLL
        go_wp2_with fail
        refine HL.out.mono ?_
        rintro en w7 ⟨rfl, hg7⟩
        have hr7 := hrX.grow hg7
        have hR7 := hRX.grow hg7
        clear hrX hRX HL
        go_wp2_with fail
        refine (endR_any b _ _ _ hr7).mono ?_
        rintro en w8 ⟨rfl, rfl⟩
        have hDD := endW_any c B ys i2 bad2 w7 hR7 hS2.1 hl
        rw [← hS2.fin] at hDD
        generalize (if zs2.length = 0 then e2 else 2) = fin at hDD
        have HD : Hid (Calls Try.prog 29 #[.pointer (some ⟨c, 0, none⟩)] w7 fun e w' => e = .returned (.int .i64 fin) ∧ Grow w7 w') := hDD
        clear hDD
        go_wp2_with fail
        refine HD.out.mono ?_
        rintro en w8 ⟨rfl, hg8⟩
        have hr8 := hr7.grow hg8
        have hR8 := hR7.grow hg8
        clear hr7 hR7 HD
        go_wp2
        go_roundg (N - (j + 1))
        case measure => omega
        case rel => exact ⟨j + 1, zs2, e2, i2, bad2, rfl, by omega, by go_num, hS2, hr8, hR8, Grow.trans (Grow.trans gX hg7) hg8⟩
      · rw [hq] at hHA
        have HA : Hid (∀ w, Calls Try.prog 18 #[.int .i64 x, .int .i64 4] w fun e w' => e = .returned (.int .i64 1) ∧ w = w') := hHA
        clear hHA hq
        obtain ⟨i2, bad2, hS2, hW⟩ := hS.uint hby hl
        have HW : Hid (∀ (w : World) (c B : Nat), RAt w c B ys i bad → Calls Try.prog 20 #[.pointer (some ⟨c, 0, none⟩)] w fun en w' => en = .returned (.int .u64 (uval zs)) ∧ RAt w' c B ys i2 bad2 ∧ Upd c w w') := hW
        clear hW
        go_wp2_with fail
        refine (HA.out _).mono ?_
        rintro en w5 ⟨rfl, rfl⟩
        go_wp2_with fail
        refine (intR_any b zs e _ hr (hS.byte hby)).mono ?_
        rintro en w5 ⟨rfl, hr5, hu5⟩
        have hR5 := hR.upd hu5 (fun j hj => by omega) (by omega)
        go_wp2_with fail
        refine (HW.out _ c B hR5).mono ?_
        rintro en wX ⟨rfl, hRX, hu6⟩
        have hrX := hr5.upd hu6 (by omega) (fun k hk => by have := HP.out k hk; omega)
        have gX : Grow w wX := UpdS.new (UpdS.new hg hu5 (fun k hk => by omega)) hu6 (fun k hk => by omega)
        clear hr5 hR5 hr hR HW
        generalize urest zs = zs2 at *
        generalize uerr zs e = e2 at *
        go_wp2_with fail
        refine (errnoR_any b _ _ _ hrX).mono ?_
        rintro en w7 ⟨rfl, rfl⟩
        have hEE := errnoW_any c B ys i2 bad2 _ hRX
        rw [← hS2.errno] at hEE
        have HE : Hid (Calls Try.prog 25 #[.pointer (some ⟨c, 0, none⟩)] wX fun en w' => en = .returned (.int .i64 e2) ∧ wX = w') := hEE
        clear hEE
        go_wp2_with fail
        refine HE.out.mono ?_
        rintro en w7 ⟨rfl, rfl⟩
        clear HE
        go_wp2_with fail
        refine (leftR_any b _ _ _ hrX).mono ?_
        rintro en w7 ⟨rfl, rfl⟩
        have hLL := leftW_any c B ys i2 bad2 wX hRX hS2.1 hl
        rw [← hS2.len] at hLL
        have HL : Hid (Calls Try.prog 27 #[.pointer (some ⟨c, 0, none⟩)] wX fun e w' => e = .returned (.int .i64 (zs2.length : Int)) ∧ Grow wX w') := hLL
        clear hLL
        go_wp2_with fail
        refine HL.out.mono ?_
        rintro en w7 ⟨rfl, hg7⟩
        have hr7 := hrX.grow hg7
        have hR7 := hRX.grow hg7
        clear hrX hRX HL
        go_wp2_with fail
        refine (endR_any b _ _ _ hr7).mono ?_
        rintro en w8 ⟨rfl, rfl⟩
        have hDD := endW_any c B ys i2 bad2 w7 hR7 hS2.1 hl
        rw [← hS2.fin] at hDD
        generalize (if zs2.length = 0 then e2 else 2) = fin at hDD
        have HD : Hid (Calls Try.prog 29 #[.pointer (some ⟨c, 0, none⟩)] w7 fun e w' => e = .returned (.int .i64 fin) ∧ Grow w7 w') := hDD
        clear hDD
        go_wp2_with fail
        refine HD.out.mono ?_
        rintro en w8 ⟨rfl, hg8⟩
        have hr8 := hr7.grow hg8
        have hR8 := hR7.grow hg8
        clear hr7 hR7 HD
        go_wp2
        go_roundg (N - (j + 1))
        case measure => omega
        case rel => exact ⟨j + 1, zs2, e2, i2, bad2, rfl, by omega, by go_num, hS2, hr8, hR8, Grow.trans (Grow.trans gX hg7) hg8⟩
      · rw [hq] at hHA
        have HA : Hid (∀ w, Calls Try.prog 18 #[.int .i64 x, .int .i64 4] w fun e w' => e = .returned (.int .i64 2) ∧ w = w') := hHA
        clear hHA hq
        have hbd := around_bd y 31 (by omega)
        obtain ⟨m, hm⟩ := Int.eq_ofNat_of_zero_le hbd.1
        have HM : Hid (∀ w, Calls Try.prog 18 #[.int .i64 y, .int .i64 31] w fun e w' => e = .returned (.int .i64 (m : Int)) ∧ w = w') := fun w => by
          have := around_any y 31 w hwy (by omega) (by omega)
          rw [hm] at this
          exact this
        rw [hm] at hbd
        have hm31 := hbd.2
        clear hbd hm
        have ky := HCl.out _ _ _ hcy wr hg
        obtain ⟨res, zs2, e2, i2, bad2, hS2, hB1, hB2⟩ := hS.bytes hby hl (m : Int) (wf_i64_small m (by omega))
        have HB1 : Hid (∀ (w : World) (b : Nat) (p : Nat → Prop), RdrAt w b p zs e → Calls Try.prog 22 #[.pointer (some ⟨b, 0, none⟩), .int .i64 (m : Int)] w fun en w' => ∃ v, en = .returned v ∧ Own .u8 w.heap.size w' v res ∧ RdrAt w' b p zs2 e2 ∧ Upd b w w') := hB1
        have HB2 : Hid (∀ (w : World) (c B : Nat), RAt w c B ys i bad → Calls Try.prog 23 #[.pointer (some ⟨c, 0, none⟩), .int .i64 (m : Int)] w fun en w' => ∃ v, en = .returned v ∧ Rd .u8 B w' v res ∧ RAt w' c B ys i2 bad2 ∧ Upd c w w') := hB2
        clear hB1 hB2
        go_wp2_with fail
        refine (HA.out _).mono ?_
        rintro en w5 ⟨rfl, rfl⟩
        go_wp2_with fail
        refine (HM.out _).mono ?_
        rintro en w5 ⟨rfl, rfl⟩
        go_wp2
        refine wp_region_schedG (UpdS (fun k => k = b ∨ k = c)) (UpdS.refl (fun k => k = b ∨ k = c)) (fun _ _ _ => UpdS.trans) (by kernel_rfl) [(0, false), (1, false), (4, false), (5, false), (2, true), (3, false), (6, true), (7, false), (8, false)] (by kernel_rfl) (by kernel_rfl) rfl (fun _ _ d _ _ h => by cases d <;> exact h) ?_
        simp only [inOrder, List.filterMap_cons, List.filterMap_nil, List.getElem?_toArray, List.getElem?_cons_zero, List.getElem?_cons_succ, Option.map_some]
        repeat (first
          | (refine wpS_move rfl ?_; simp only [Act.eval, Act.put, Array.getD_eq_getD_getElem?, List.getElem?_toArray, List.getElem?_cons_zero, List.getElem?_cons_succ, Option.getD_some, List.setIfInBounds_toArray, List.set_cons_zero, List.set_cons_succ])
          | (refine wpS_assign rfl ?_; simp only [Act.eval, Act.put, Array.getD_eq_getD_getElem?, List.getElem?_toArray, List.getElem?_cons_zero, List.getElem?_cons_succ, Option.getD_some, List.setIfInBounds_toArray, List.set_cons_zero, List.set_cons_succ])
          | (refine wpS_read (v := ?_) rfl ?_ ?_; rotate_left; (focus (intro w' hG; go_simp; try (with_reducible rfl))); simp only [Act.put, List.setIfInBounds_toArray, List.set_cons_zero, List.set_cons_succ])
          | (refine wpS_skip rfl ?_; simp only [Act.put, List.setIfInBounds_toArray, List.set_cons_zero, List.set_cons_succ]))
        refine wpS_call (f := ?_) (args := ?_) (by rfl) ?_ ?_
        rotate_left 2; focus (go_simp; constructor <;> with_reducible rfl)
        refine (HB1.out _ b p (hr.grow (Grow.refl wr).drew)).mono ?_
        rintro en w5 ⟨v5, rfl, ho5, hr5, hu5⟩
        refine ⟨_, rfl, hu5.s (Or.inl rfl), ?_⟩
        have hR5 := (hR.grow (Grow.refl wr).drew).upd hu5 (fun j hj => by omega) (by omega)
        have s5 : ∀ w', UpdS (fun k => k = b ∨ k = c) w5 w' → (convert 22 9 v5).run Try.prog w' = .ok (.string (strOfNums res)) w' := fun w' h => (ho5.upd h (fun i hi => by have e1 := hr.lt; have e2 := hR.lt; show i < wr.heap.size; rcases hi with hi | hi <;> omega)).rd.string 22 9 5 Try.underlying22 Try.underlying5 Try.underlying9
        simp only [Act.put, List.setIfInBounds_toArray, List.set_cons_zero, List.set_cons_succ]
        repeat (first
          | (refine wpS_move rfl ?_; simp only [Act.eval, Act.put, Array.getD_eq_getD_getElem?, List.getElem?_toArray, List.getElem?_cons_zero, List.getElem?_cons_succ, Option.getD_some, List.setIfInBounds_toArray, List.set_cons_zero, List.set_cons_succ])
          | (refine wpS_assign rfl ?_; simp only [Act.eval, Act.put, Array.getD_eq_getD_getElem?, List.getElem?_toArray, List.getElem?_cons_zero, List.getElem?_cons_succ, Option.getD_some, List.setIfInBounds_toArray, List.set_cons_zero, List.set_cons_succ])
          | (refine wpS_read (v := ?_) rfl ?_ ?_; rotate_left; (focus (intro w' hG; go_simp; try (with_reducible rfl))); simp only [Act.put, List.setIfInBounds_toArray, List.set_cons_zero, List.set_cons_succ])
          | (refine wpS_skip rfl ?_; simp only [Act.put, List.setIfInBounds_toArray, List.set_cons_zero, List.set_cons_succ]))
        refine wpS_call (f := ?_) (args := ?_) (by rfl) ?_ ?_
        rotate_left 2; focus (go_simp; constructor <;> with_reducible rfl)
        refine (HB2.out _ c B hR5).mono ?_
        rintro en wX ⟨v6, rfl, ho6, hRX, hu6⟩
        refine ⟨_, rfl, hu6.s (Or.inr rfl), ?_⟩
        have hrX := hr5.upd hu6 (by omega) (fun k hk => by have := HP.out k hk; omega)
        have gX : Grow w wX := UpdS.new (UpdS.new (Grow.drew hg) hu5 (fun k hk => by omega)) hu6 (fun k hk => by omega)
        have s6 : ∀ w', UpdS (fun k => k = b ∨ k = c) wX w' → (convert 22 9 v6).run Try.prog w' = .ok (.string (strOfNums res)) w' := fun w' h => (ho6.below (h.below (by have := hRX.lt; omega) (fun i hi => by rcases hi with hi | hi <;> omega))).string 22 9 5 Try.underlying22 Try.underlying5 Try.underlying9
        simp only [Act.put, List.setIfInBounds_toArray, List.set_cons_zero, List.set_cons_succ]
        repeat (first
          | (refine wpS_move rfl ?_; simp only [Act.eval, Act.put, Array.getD_eq_getD_getElem?, List.getElem?_toArray, List.getElem?_cons_zero, List.getElem?_cons_succ, Option.getD_some, List.setIfInBounds_toArray, List.set_cons_zero, List.set_cons_succ])
          | (refine wpS_assign rfl ?_; simp only [Act.eval, Act.put, Array.getD_eq_getD_getElem?, List.getElem?_toArray, List.getElem?_cons_zero, List.getElem?_cons_succ, Option.getD_some, List.setIfInBounds_toArray, List.set_cons_zero, List.set_cons_succ])
          | (refine wpS_read (v := ?_) rfl ?_ ?_; rotate_left; (focus (intro w' hG; go_simp; try (with_reducible rfl))); simp only [Act.put, List.setIfInBounds_toArray, List.set_cons_zero, List.set_cons_succ])
          | (refine wpS_skip rfl ?_; simp only [Act.put, List.setIfInBounds_toArray, List.set_cons_zero, List.set_cons_succ]))
        refine wpS_nil ?_
        clear s5 s6 hr5 hR5 hr hR HB1 HB2
        go_wp2_with fail
        refine (errnoR_any b _ _ _ hrX).mono ?_
        rintro en w7 ⟨rfl, rfl⟩
        have hEE := errnoW_any c B ys i2 bad2 _ hRX
        rw [← hS2.errno] at hEE
        have HE : Hid (Calls Try.prog 25 #[.pointer (some ⟨c, 0, none⟩)] wX fun en w' => en = .returned (.int .i64 e2) ∧ wX = w') := hEE
        clear hEE
        go_wp2_with fail
        refine HE.out.mono ?_
        rintro en w7 ⟨rfl, rfl⟩
        clear HE
        go_wp2_with fail
        refine (leftR_any b _ _ _ hrX).mono ?_
        rintro en w7 ⟨rfl, rfl⟩
        have hLL := leftW_any c B ys i2 bad2 wX hRX hS2.1 hl
        rw [← hS2.len] at hLL
        have HL : Hid (Calls Try.prog 27 #[.pointer (some ⟨c, 0, none⟩)] wX fun e w' => e = .returned (.int .i64 (zs2.length : Int)) ∧ Grow wX w') := hLL
        clear hLL
        go_wp2_with fail
        refine HL.out.mono ?_
        rintro en w7 ⟨rfl, hg7⟩
        have hr7 := hrX.grow hg7
        have hR7 := hRX.grow hg7
        clear hrX hRX HL
        go_wp2_with fail
        refine (endR_any b _ _ _ hr7).mono ?_
        rintro en w8 ⟨rfl, rfl⟩
        have hDD := endW_any c B ys i2 bad2 w7 hR7 hS2.1 hl
        rw [← hS2.fin] at hDD
        generalize (if zs2.length = 0 then e2 else 2) = fin at hDD
        have HD : Hid (Calls Try.prog 29 #[.pointer (some ⟨c, 0, none⟩)] w7 fun e w' => e = .returned (.int .i64 fin) ∧ Grow w7 w') := hDD
        clear hDD
        go_wp2_with fail
        refine HD.out.mono ?_
        rintro en w8 ⟨rfl, hg8⟩
        have hr8 := hr7.grow hg8
        have hR8 := hR7.grow hg8
        clear hr7 hR7 HD
        go_wp2
        go_roundg (N - (j + 1))
        case measure => omega
        case rel => exact ⟨j + 1, zs2, e2, i2, bad2, rfl, by omega, by go_num, hS2, hr8, hR8, Grow.trans (Grow.trans gX hg7) hg8⟩
      · rw [hq] at hHA
        have HA : Hid (∀ w, Calls Try.prog 18 #[.int .i64 x, .int .i64 4] w fun e w' => e = .returned (.int .i64 3) ∧ w = w') := hHA
        clear hHA hq
        obtain ⟨res, zs2, e2, i2, bad2, hS2, hB1, hB2⟩ := hS.bytes hby hl y hwy
        have HB1 : Hid (∀ (w : World) (b : Nat) (p : Nat → Prop), RdrAt w b p zs e → Calls Try.prog 22 #[.pointer (some ⟨b, 0, none⟩), .int .i64 y] w fun en w' => ∃ v, en = .returned v ∧ Own .u8 w.heap.size w' v res ∧ RdrAt w' b p zs2 e2 ∧ Upd b w w') := hB1
        have HB2 : Hid (∀ (w : World) (c B : Nat), RAt w c B ys i bad → Calls Try.prog 23 #[.pointer (some ⟨c, 0, none⟩), .int .i64 y] w fun en w' => ∃ v, en = .returned v ∧ Rd .u8 B w' v res ∧ RAt w' c B ys i2 bad2 ∧ Upd c w w') := hB2
        clear hB1 hB2
        go_wp2_with fail
        refine (HA.out _).mono ?_
        rintro en w5 ⟨rfl, rfl⟩
        have kp : ∀ w', UpdS (fun k => k = b ∨ k = c) wr.drew w' → w'.cell? ⟨bp, op + j * 2 + 1, none⟩ = some (.int .i64 y) := fun w' h => HCl.out _ _ _ hcy w' (UpdS.new (Grow.drew hg) h (fun i hi => by rcases hi with hi | hi <;> omega))
        have ky := HCl.out _ _ _ hcy wr hg
        go_wp2
        refine wp_region_schedG (UpdS (fun k => k = b ∨ k = c)) (UpdS.refl (fun k => k = b ∨ k = c)) (fun _ _ _ => UpdS.trans) (by kernel_rfl) [(0, false), (1, false), (2, false), (3, false), (4, false), (5, false), (8, false), (9, false), (10, false), (11, false), (12, false), (13, false), (6, true), (7, false), (14, true), (15, false), (16, false)] (by kernel_rfl) (by kernel_rfl) rfl (fun _ _ d _ _ h => by cases d <;> exact h) ?_
        simp only [inOrder, List.filterMap_cons, List.filterMap_nil, List.getElem?_toArray, List.getElem?_cons_zero, List.getElem?_cons_succ, Option.map_some]
        repeat (first
          | (refine wpS_move rfl ?_; simp only [Act.eval, Act.put, Array.getD_eq_getD_getElem?, List.getElem?_toArray, List.getElem?_cons_zero, List.getElem?_cons_succ, Option.getD_some, List.setIfInBounds_toArray, List.set_cons_zero, List.set_cons_succ])
          | (refine wpS_assign rfl ?_; simp only [Act.eval, Act.put, Array.getD_eq_getD_getElem?, List.getElem?_toArray, List.getElem?_cons_zero, List.getElem?_cons_succ, Option.getD_some, List.setIfInBounds_toArray, List.set_cons_zero, List.set_cons_succ])
          | (refine wpS_read (v := ?_) rfl ?_ ?_; rotate_left; (focus (intro w' hG; go_simp; try (with_reducible rfl))); simp only [Act.put, List.setIfInBounds_toArray, List.set_cons_zero, List.set_cons_succ])
          | (refine wpS_skip rfl ?_; simp only [Act.put, List.setIfInBounds_toArray, List.set_cons_zero, List.set_cons_succ]))
        refine wpS_call (f := ?_) (args := ?_) (by rfl) ?_ ?_
        rotate_left 2; focus (go_simp; constructor <;> with_reducible rfl)
        refine (HB1.out _ b p (hr.grow (Grow.refl wr).drew)).mono ?_
        rintro en w5 ⟨v5, rfl, ho5, hr5, hu5⟩
        refine ⟨_, rfl, hu5.s (Or.inl rfl), ?_⟩
        have hR5 := (hR.grow (Grow.refl wr).drew).upd hu5 (fun j hj => by omega) (by omega)
        have s5 : ∀ w', UpdS (fun k => k = b ∨ k = c) w5 w' → (convert 22 9 v5).run Try.prog w' = .ok (.string (strOfNums res)) w' := fun w' h => (ho5.upd h (fun i hi => by have e1 := hr.lt; have e2 := hR.lt; show i < wr.heap.size; rcases hi with hi | hi <;> omega)).rd.string 22 9 5 Try.underlying22 Try.underlying5 Try.underlying9
        clear kp
        simp only [Act.put, List.setIfInBounds_toArray, List.set_cons_zero, List.set_cons_succ]
        repeat (first
          | (refine wpS_move rfl ?_; simp only [Act.eval, Act.put, Array.getD_eq_getD_getElem?, List.getElem?_toArray, List.getElem?_cons_zero, List.getElem?_cons_succ, Option.getD_some, List.setIfInBounds_toArray, List.set_cons_zero, List.set_cons_succ])
          | (refine wpS_assign rfl ?_; simp only [Act.eval, Act.put, Array.getD_eq_getD_getElem?, List.getElem?_toArray, List.getElem?_cons_zero, List.getElem?_cons_succ, Option.getD_some, List.setIfInBounds_toArray, List.set_cons_zero, List.set_cons_succ])
          | (refine wpS_read (v := ?_) rfl ?_ ?_; rotate_left; (focus (intro w' hG; go_simp; try (with_reducible rfl))); simp only [Act.put, List.setIfInBounds_toArray, List.set_cons_zero, List.set_cons_succ])
          | (refine wpS_skip rfl ?_; simp only [Act.put, List.setIfInBounds_toArray, List.set_cons_zero, List.set_cons_succ]))
        refine wpS_call (f := ?_) (args := ?_) (by rfl) ?_ ?_
        rotate_left 2; focus (go_simp; constructor <;> with_reducible rfl)
        refine (HB2.out _ c B hR5).mono ?_
        rintro en wX ⟨v6, rfl, ho6, hRX, hu6⟩
        refine ⟨_, rfl, hu6.s (Or.inr rfl), ?_⟩
        have hrX := hr5.upd hu6 (by omega) (fun k hk => by have := HP.out k hk; omega)
        have gX : Grow w wX := UpdS.new (UpdS.new (Grow.drew hg) hu5 (fun k hk => by omega)) hu6 (fun k hk => by omega)
        have s6 : ∀ w', UpdS (fun k => k = b ∨ k = c) wX w' → (convert 22 9 v6).run Try.prog w' = .ok (.string (strOfNums res)) w' := fun w' h => (ho6.below (h.below (by have := hRX.lt; omega) (fun i hi => by rcases hi with hi | hi <;> omega))).string 22 9 5 Try.underlying22 Try.underlying5 Try.underlying9
        simp only [Act.put, List.setIfInBounds_toArray, List.set_cons_zero, List.set_cons_succ]
        repeat (first
          | (refine wpS_move rfl ?_; simp only [Act.eval, Act.put, Array.getD_eq_getD_getElem?, List.getElem?_toArray, List.getElem?_cons_zero, List.getElem?_cons_succ, Option.getD_some, List.setIfInBounds_toArray, List.set_cons_zero, List.set_cons_succ])
          | (refine wpS_assign rfl ?_; simp only [Act.eval, Act.put, Array.getD_eq_getD_getElem?, List.getElem?_toArray, List.getElem?_cons_zero, List.getElem?_cons_succ, Option.getD_some, List.setIfInBounds_toArray, List.set_cons_zero, List.set_cons_succ])
          | (refine wpS_read (v := ?_) rfl ?_ ?_; rotate_left; (focus (intro w' hG; go_simp; try (with_reducible rfl))); simp only [Act.put, List.setIfInBounds_toArray, List.set_cons_zero, List.set_cons_succ])
          | (refine wpS_skip rfl ?_; simp only [Act.put, List.setIfInBounds_toArray, List.set_cons_zero, List.set_cons_succ]))
        refine wpS_nil ?_
        clear s5 s6 hr5 hR5 hr hR HB1 HB2
        go_wp2_with fail
        refine (errnoR_any b _ _ _ hrX).mono ?_
        rintro en w7 ⟨rfl, rfl⟩
        have hEE := errnoW_any c B ys i2 bad2 _ hRX
        rw [← hS2.errno] at hEE
        have HE : Hid (Calls Try.prog 25 #[.pointer (some ⟨c, 0, none⟩)] wX fun en w' => en = .returned (.int .i64 e2) ∧ wX = w') := hEE
        clear hEE
        go_wp2_with fail
        refine HE.out.mono ?_
        rintro en w7 ⟨rfl, rfl⟩
        clear HE
        go_wp2_with fail
        refine (leftR_any b _ _ _ hrX).mono ?_
        rintro en w7 ⟨rfl, rfl⟩
        have hLL := leftW_any c B ys i2 bad2 wX hRX hS2.1 hl
        rw [← hS2.len] at hLL
        have HL : Hid (Calls Try.prog 27 #[.pointer (some ⟨c, 0, none⟩)] wX fun e w' => e = .returned (.int .i64 (zs2.length : Int)) ∧ Grow wX w') := hLL
        clear hLL
        go_wp2_with fail
        refine HL.out.mono ?_
        rintro en w7 ⟨rfl, hg7⟩
        have hr7 := hrX.grow hg7
        have hR7 := hRX.grow hg7
        clear hrX hRX HL
        go_wp2_with fail
        refine (endR_any b _ _ _ hr7).mono ?_
        rintro en w8 ⟨rfl, rfl⟩
        have hDD := endW_any c B ys i2 bad2 w7 hR7 hS2.1 hl
        rw [← hS2.fin] at hDD
        generalize (if zs2.length = 0 then e2 else 2) = fin at hDD
        have HD : Hid (Calls Try.prog 29 #[.pointer (some ⟨c, 0, none⟩)] w7 fun e w' => e = .returned (.int .i64 fin) ∧ Grow w7 w') := hDD
        clear hDD
        go_wp2_with fail
        refine HD.out.mono ?_
        rintro en w8 ⟨rfl, hg8⟩
        have hr8 := hr7.grow hg8
        have hR8 := hR7.grow hg8
        clear hr7 hR7 HD
        go_wp2
        go_roundg (N - (j + 1))
        case measure => omega
        case rel => exact ⟨j + 1, zs2, e2, i2, bad2, rfl, by omega, by go_num, hS2, hr8, hR8, Grow.trans (Grow.trans gX hg7) hg8⟩
    · have hNN := HNL.out j hlt
      by_cases h1 : j < ps.length
      · have h1' : (j : Int) < (ps.length : Int) := by omega
        have h8' : ¬ (j : Int) < 8 := by omega
        go_wp2_with fail
        refine (lives_any _).mono ?_
        rintro en w5 ⟨rfl, hg5⟩
        go_wp2
        go_ret
        exact ⟨rfl, Grow.trans hg hg5⟩
      · have h1' : ¬ (j : Int) < (ps.length : Int) := by omega
        go_wp2_with fail
        refine (lives_any _).mono ?_
        rintro en w5 ⟨rfl, hg5⟩
        go_wp2
        go_ret
        exact ⟨rfl, Grow.trans hg hg5⟩
end Go.Proofs.Ytcilbokogejicaa
