/-
  The walks of crc.numbers, crc.More and crc.Sum. Conditions: each theorem's own.
-/
import Derived.Test.YtpkoiogdkaklfaaHalve
import Derived.Test.YtpkoiogdkaklfaaArr
namespace Go.Proofs.Ytpkoiogdkaklfaa
open Go.RowKit
set_option linter.unusedVariables false

theorem Try.info93 : (Try.prog.info? 93).map (fun i => (i.zero, i.size)) = some (some (.agg (Array.replicate 256 (.int .u32 0))), 256) := by kernel_rfl
theorem Try.zero93 (w : World) : (zeroValue 93).run Try.prog w = .ok (.agg (Array.replicate 256 (.int .u32 0))) w := by
  cases hq : Try.prog.info? 93 with
  | none => have := Try.info93; rw [hq] at this; cases this
  | some i =>
    have := Try.info93
    rw [hq] at this
    simp only [Option.map_some, Option.some.injEq, Prod.mk.injEq] at this
    simp [zeroValue, typeInfo, hq, this.1]
theorem Try.size93 : (Try.prog.info? 93).map (·.size) = some 256 := by kernel_rfl

/-- the table -/
def tab : List Value := (List.range 256).map fun i => .int .u32 ((halve 8 i : Nat) : Int)
theorem tab_length : tab.length = 256 := by simp [tab]
theorem tab_one : tab.toArray.all (·.oneCell') = true := all_oneCell_toArray fun v hv => by
  simp only [tab, List.mem_map] at hv
  obtain ⟨i, _, rfl⟩ := hv
  rfl
theorem tab_at (i : Nat) (h : i < 256) : tab[i]? = some (.int .u32 ((halve 8 i : Nat) : Int)) := by simp [tab, h]

/-- block g's first 256 cells are there and may be written -/
def Room (g : Nat) (w : World) : Prop := ∀ i, i < 256 → (w.cell? ⟨g, i, none⟩).isSome = true ∧ w.frozen? ⟨g, i, none⟩ = false
theorem Room.there {g : Nat} {w : World} (h : Room g w) : w.there g 0 256 := fun j hj => by rw [Nat.zero_add]; exact h j hj
theorem room_new (w : World) (t : TypeId) (v : Value) : Room w.heap.size (w.alloc (.cells (Array.replicate 256 v) t)) := fun i hi => by
  refine ⟨?_, World.frozen?_alloc_new w _ _ _⟩
  refine (congrArg Option.isSome (World.cell?_alloc_new w _ _ i)).trans ?_
  rw [Array.getElem?_eq_getElem (by simpa using hi)]
  rfl
theorem Room.alloc {g : Nat} {w : World} (h : Room g w) (o : Obj) : Room g (w.alloc o) := fun i hi => by
  obtain ⟨h1, h2⟩ := h i hi
  obtain ⟨u, hu⟩ := Option.isSome_iff_exists.1 h1
  have hb := World.block_lt_of_cell? w _ hu
  exact ⟨by rw [World.cell?_alloc_lt _ _ _ hb]; exact h1, by rw [World.frozen?_alloc_past _ _ _ hb]; exact h2⟩
theorem Room.set {g : Nat} {w : World} (h : Room g w) (p : Addr) (v : Value) : Room g (w.setCell p v) := fun i hi => by
  refine ⟨?_, by rw [World.frozen?_setCell]; exact (h i hi).2⟩
  obtain ⟨u, hu⟩ := Option.isSome_iff_exists.1 (h i hi).1
  by_cases e : p = ⟨g, i, none⟩
  · subst e; rw [World.cell?_setCell_same _ _ _ hu]; rfl
  · rw [World.cell?_setCell_other _ _ _ _ e, hu]; rfl

theorem wrap32 (j : Nat) (h : j < 4294967296) : IntKind.u32.wrap (j : Int) = (j : Int) := by rw [IntKind.wrap_u32']; omega

set_option maxHeartbeats 1000000 in
theorem numbers_any (w : World) :
    Calls Try.prog 58 #[] w fun e w' => e = .returned (.agg tab.toArray) ∧ Below w.heap.size w w' := by
  go_enter Try.func58, Try.ntmps58
  go_wp2_with (with_reducible refine wpList_alloc_row rfl 93 rfl _ Try.zero93 ?_)
  rename_i K hK
  have HK := (show Hid _ from hK)
  clear hK
  have hr0 : Room w.heap.size ((w.alloc (Obj.cells (Array.replicate 256 (Value.int IntKind.u32 0)) 93)).alloc (Obj.cells (Array.replicate 256 (Value.int IntKind.u32 0)) 93)) := (room_new w 93 _).alloc _
  have hr1 : Room (w.heap.size + 1) ((w.alloc (Obj.cells (Array.replicate 256 (Value.int IntKind.u32 0)) 93)).alloc (Obj.cells (Array.replicate 256 (Value.int IntKind.u32 0)) 93)) := by
    have := room_new (w.alloc (Obj.cells (Array.replicate 256 (Value.int IntKind.u32 0)) 93)) 93 (Value.int IntKind.u32 0)
    rwa [World.size_alloc] at this
  have hb0 : Below w.heap.size w ((w.alloc (Obj.cells (Array.replicate 256 (Value.int IntKind.u32 0)) 93)).alloc (Obj.cells (Array.replicate 256 (Value.int IntKind.u32 0)) 93)) := ((Below.refl _ w).alloc (Nat.le_refl _) _).alloc (by simp) _
  generalize ((w.alloc (Obj.cells (Array.replicate 256 (Value.int IntKind.u32 0)) 93)).alloc (Obj.cells (Array.replicate 256 (Value.int IntKind.u32 0)) 93)) = w2 at hr0 hr1 hb0
  go_loopg [3] 256 (fun k c wr => ∃ j : Nat, k = 256 - j ∧ j ≤ 256 ∧ c = .int .i64 j ∧ Room w.heap.size wr ∧ Room (w.heap.size + 1) wr ∧ Below w.heap.size w wr ∧ Hid (∀ i, i < j → wr.cell? ⟨w.heap.size + 1, i, none⟩ = some (.int .u32 ((halve 8 i : Nat) : Int))))
  case atStart => exact ⟨0, rfl, Nat.zero_le _, rfl, hr0, hr1, hb0, fun i hi => absurd hi (Nat.not_lt_zero _)⟩
  case round =>
    obtain ⟨j, hk, hj, rfl, r0, r1, hb, HT⟩ := hrel
    by_cases hlt : j < 256
    · have hlt' : (j : Int) < 256 := by omega
      obtain ⟨hc1, hf1⟩ := r1 j hlt
      obtain ⟨u, hu⟩ := Option.isSome_iff_exists.1 hc1
      go_wp2_with fail
      refine (halved_any j _ (by omega)).mono ?_
      rintro e w3 ⟨rfl, rfl⟩
      go_wp2
      go_roundg (256 - (j + 1))
      case measure => omega
      case rel =>
        refine ⟨j + 1, rfl, by omega, by go_num, r0.set _ _, r1.set _ _, hb.setCell (by show w.heap.size ≤ w.heap.size + 1; omega) _, fun i hi => ?_⟩
        by_cases e : i = j
        · subst e
          exact World.cell?_setCell_same _ _ _ hu
        · rw [World.cell?_setCell_other _ _ _ _ (by intro h; injection h with _ h2; exact e h2.symm)]
          exact HT.out i (by omega)
    · have hge : ¬ (j : Int) < 256 := by omega
      have HJ : Hid (j = 256) := by show j = 256; omega
      have hrange : wr.rangeAt (w.heap.size + 1) 0 tab := fun i v hv => by
        have hi : i < 256 := by have := (List.getElem?_eq_some_iff.1 hv).1; rwa [tab_length] at this
        rw [tab_at i hi] at hv
        injection hv with hv
        rw [Nat.zero_add, HT.out i (by rw [HJ.out]; exact hi), hv]
      have hth := r0.there
      clear HT r1 r0 hk hj hlt hr0 hr1 hb0
      have hset : (wr.setCells w.heap.size 0 tab).rangeAt w.heap.size 0 tab := World.rangeAt_setCells_same _ _ _ _ (by rw [tab_length]; exact hth)
      have e256 : tab.toArray.size = 256 := by rw [List.size_toArray]; exact tab_length
      have HZ : Hid ((Try.prog.info? 93).map (·.size) = some tab.length) := by rw [tab_length]; exact Try.size93
      have HZ' : Hid ((Try.prog.info? 93).map (·.size) = some tab.toArray.size) := by rw [e256]; exact Try.size93
      have HTH : Hid (wr.there w.heap.size 0 tab.toArray.size) := by rw [e256]; exact hth
      have HR : Hid (wr.rangeAt (w.heap.size + 1) 0 tab) := hrange
      have HS : Hid ((wr.setCells w.heap.size 0 tab).rangeAt w.heap.size 0 tab) := hset
      clear e256 hth hrange hset HJ
      go_wp2
      refine HK.out _ _ (wp_seq (wp_region_lit ?_))
      refine wpList_load_mid rfl 93 (.tmp 1) rfl (w.heap.size + 1) 0 rfl tab _ HR.out Try.underlying93 rfl HZ.out ?_
      refine wpList_store_mid rfl 93 (.tmp 0) (.tmp 12) rfl w.heap.size 0 tab.toArray rfl rfl HTH.out HZ'.out tab_one ?_
      have hb' : Below w.heap.size w (wr.setCells w.heap.size 0 tab) := hb.trans (below_cells (Nat.le_refl _) _ _)
      have hl := run_loadVar_mid (P := Try.prog) (wr.setCells w.heap.size 0 tab) w.heap.size 0 93 tab _ HS.out Try.underlying93 rfl HZ.out
      rw [show tab.toArray.toList = tab from rfl]
      generalize wr.setCells w.heap.size 0 tab = w5 at hb' hl
      have HL : Hid ((loadVar 93 ⟨w.heap.size, 0, none⟩).run Try.prog w5 = .ok (.agg tab.toArray) w5) := hl
      clear hl HK
      go_wp2
      exact bodyPost_ret_by (results_cell rfl _ _ _ _ rfl HL.out) rfl ⟨rfl, hb'⟩

theorem tab_room (w : World) : (w.alloc (.cells (Array.replicate 256 (.int .u32 0)) 93)).there w.heap.size 0 tab.toArray.size := by
  have e256 : tab.toArray.size = 256 := by rw [List.size_toArray]; exact tab_length
  rw [e256]
  exact (room_new w 93 _).there
theorem tab_size : (Try.prog.info? 93).map (·.size) = some tab.toArray.size := by rw [List.size_toArray, tab_length]; exact Try.size93


set_option maxHeartbeats 1000000 in
theorem more_any (s : Nat) (v : Value) (zs : List Int) (B : Nat) (w : World) (hs : s < 4294967296) (h : Rd .u8 B w v zs) (ho : Oct zs) :
    Calls Try.prog 57 #[.int .u32 (s : Int), v] w fun e w' => e = .returned (.int .u32 ((chk s zs : Nat) : Int)) ∧ Below w.heap.size w w' := by
  replace h := h.size
  have hl := h.len
  obtain ⟨a, c, rfl, h1, h2, h3⟩ := h
  have hnot : bits .xor .u32 IntKind.u32.max (s : Int) = ((4294967295 - s : Nat) : Int) := u32_not s hs
  go_enter Try.func57, Try.ntmps57
  go_wp2_with (first
    | (go_at_call 58; refine (numbers_any _).mono ?_; rintro e w1 ⟨rfl, hb1⟩)
    | (with_reducible refine wpList_alloc_row rfl 93 rfl _ Try.zero93 ?_; refine wpList_store_mid rfl 93 (.tmp 5) (.tmp 9) rfl _ 0 tab.toArray rfl rfl (tab_room _) tab_size tab_one ?_))
  have htab : ((w1.alloc (Obj.cells (Array.replicate 256 (Value.int IntKind.u32 0)) 93)).setCells w1.heap.size 0 tab).rangeAt w1.heap.size 0 tab := World.rangeAt_setCells_same _ _ _ _ (by
    have := tab_room w1
    rwa [List.size_toArray] at this)
  have hb5 : Below w.heap.size w ((w1.alloc (Obj.cells (Array.replicate 256 (Value.int IntKind.u32 0)) 93)).setCells w1.heap.size 0 tab) := (hb1.alloc hb1.size _).trans (below_cells hb1.size _ _)
  generalize ((w1.alloc (Obj.cells (Array.replicate 256 (Value.int IntKind.u32 0)) 93)).setCells w1.heap.size 0 tab) = w5 at htab hb5
  have HTAB : Hid (∀ y, y < 256 → w5.cell? ⟨w1.heap.size, y, none⟩ = some (.int .u32 ((halve 8 y : Nat) : Int))) := fun y hy => by
    have := htab y _ (tab_at y hy)
    rwa [Nat.zero_add] at this
  clear htab hnot
  unfold maxLen at hl
  go_loopg [6, 14] zs.length (fun k m c wr => ∃ j q : Nat, k = zs.length - j ∧ j ≤ zs.length ∧ c = .int .i64 j ∧ m = .int .u32 (q : Int) ∧ q < 4294967296 ∧ Hid (q = cr (4294967295 - s) (zs.take j)) ∧ w5 = wr)
  case atStart => exact ⟨0, 4294967295 - s, rfl, Nat.zero_le _, rfl, rfl, by omega, rfl, rfl⟩
  case round =>
    obtain ⟨j, q, hk, hj, rfl, rfl, hq, HQ, rfl⟩ := hrel
    by_cases hlt : j < zs.length
    · have hlt' : (j : Int) < (zs.length : Int) := by omega
      obtain ⟨b, o, rfl, hbB, hc⟩ := h3 j hlt
      have hcr : w5.cell? ⟨b, o + j, none⟩ = some (.int .u8 (zs.getD j 0)) := by rw [hb5.cell (p := ⟨b, o + j, none⟩) hbB]; exact hc
      have hx := ho.getD j
      have HT : Hid (cr (4294967295 - s) (zs.take (j + 1)) = step (cr (4294967295 - s) (zs.take j)) (zs.getD j 0)) := cr_take_succ _ zs j hlt
      clear hc h3
      generalize zs.getD j 0 = x at hcr HT hx
      obtain ⟨hx0, hx1⟩ := hx
      have hq8 : bits .xor .u8 ((q : Int) % 256) x = ((q % 256 ^^^ x.toNat : Nat) : Int) := by
        have := u8_xor ((q : Int) % 256) x (by omega) (by omega) hx0 hx1
        rw [this, show ((q : Int) % 256).toNat = q % 256 by omega]
      have hy256 : q % 256 ^^^ x.toNat < 256 := xor_lt8 (by omega) (by omega)
      have hcy := HTAB.out _ hy256
      have HS : Hid (step q x = q / 256 ^^^ halve 8 (q % 256 ^^^ x.toNat)) := step_table q x
      generalize q % 256 ^^^ x.toNat = y at hq8 hy256 hcy HS
      have hy' : (y : Int) < 256 := by omega
      have hq32 : bits .xor .u32 ((q : Int) / 256) ((halve 8 y : Nat) : Int) = ((q / 256 ^^^ halve 8 y : Nat) : Int) := by
        have := u32_xor_nat (q / 256) (halve 8 y) (by omega) (halve_lt 8 (by omega))
        rwa [Int.natCast_ediv] at this
      generalize halve 8 y = z at hcy HS hq32
      have HB : Hid (q / 256 ^^^ z < 4294967296) := by rw [← HS.out]; exact step_lt hq hx1
      go_wp2
      go_roundg (zs.length - (j + 1))
      case measure => omega
      case rel =>
        refine ⟨j + 1, q / 256 ^^^ z, rfl, by omega, by go_num, rfl, HB.out, ?_, rfl⟩
        show q / 256 ^^^ z = cr (4294967295 - s) (zs.take (j + 1))
        rw [HT.out, ← HQ.out, HS.out]
    · have hge : ¬ (j : Int) < (zs.length : Int) := by omega
      have HJ : Hid (zs.take j = zs) := by show zs.take j = zs; rw [List.take_of_length_le (by omega)]
      have hnot : bits .xor .u32 IntKind.u32.max (q : Int) = ((4294967295 - q : Nat) : Int) := u32_not q hq
      clear h3
      go_wp2
      go_ret
      exact ⟨ret_int (by rw [HQ.out, HJ.out]; rfl), hb5⟩

set_option maxHeartbeats 1000000 in
theorem sum_any (v : Value) (zs : List Int) (B : Nat) (w : World) (h : Rd .u8 B w v zs) (ho : Oct zs) :
    Calls Try.prog 55 #[v] w fun e w' => e = .returned (.int .u32 ((chk 0 zs : Nat) : Int)) ∧ Below w.heap.size w w' := by
  go_enter Try.func55, Try.ntmps55
  go_wp2_with (go_at_call 57; refine (more_any 0 _ zs B _ (by omega) h ho).mono ?_; rintro e w1 ⟨rfl, hb1⟩)
  go_ret
  exact ⟨rfl, hb1⟩
end Go.Proofs.Ytpkoiogdkaklfaa
