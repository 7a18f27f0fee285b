/-
  The walks of fifo's calls on a queue of numbers. Conditions: each theorem's own.
-/
import Derived.Test.YtmnaadbemlecpaaFifLib
import Derived.Test.YtmnaadbemlecpaaAround
import Derived.Test.YtmnaadbemlecpaaEnds
namespace Go.Proofs.Ytmnaadbemlecpaa
open Go.RowKit
set_option linter.unusedVariables false
set_option linter.unusedSimpArgs false

theorem Try.infoIq : (Try.prog.info? 3).map (fun i => (i.zero, i.size, i.bytes)) = some (some ((Value.int .i64) 0), 1, 8) := by kernel_rfl
theorem zeroIq (w : World) : (zeroValue 3).run Try.prog w = .ok ((Value.int .i64) 0) w := by kernel_rfl
theorem oneIq (x : Int) : ((Value.int .i64) x).oneCell' = true := rfl

set_option maxHeartbeats 1000000 in
theorem inew_no (n : Int) (w : World) (h : n < 1 ∨ 1000 < n) :
    Calls Try.prog 10 #[.int .i64 n] w fun e w' => e = .returned (.tuple #[.pointer none, .int .i64 1]) ∧ w = w' := by
  by_cases h1 : n < 1
  · clear h
    go_enter Try.func10, Try.ntmps10
    go_wp2
    go_ret2
    exact ⟨rfl, rfl⟩
  · have h2 : 1000 < n := by omega
    clear h
    go_enter Try.func10, Try.ntmps10
    go_wp2
    go_ret2
    exact ⟨rfl, rfl⟩

set_option maxHeartbeats 1000000 in
theorem inew_yes (n : Nat) (w : World) (h1 : 1 ≤ n) (h2 : n ≤ 1000) :
    Calls Try.prog 10 #[.int .i64 n] w fun e w' => ∃ b, e = .returned (.tuple #[.pointer (some ⟨b, 0, none⟩), .int .i64 0]) ∧ QAt (Value.int .i64) 0 (fun _ => False) w' b n [] ∧ Grow w w' ∧ w.heap.size ≤ b := by
  have g1 : ¬ (n : Int) < 1 := by omega
  have g2 : ¬ 1000 < (n : Int) := by omega
  have H : Hid (QAt (Value.int .i64) 0 (fun _ => False) (w.alloc (.cells #[.slice none 0 0, .int .i64 n] 56)) w.heap.size n []) := QAt.new w n h2 _
  go_enter Try.func10, Try.ntmps10
  go_wp2
  go_ret2
  exact ⟨_, rfl, H.out, (Grow.refl w).alloc _, Nat.le_refl _⟩


set_option maxHeartbeats 1000000 in
theorem ilen_any (w : World) (p : Nat → Prop) (b m : Nat) (zs : List Int) (h : QAt (Value.int .i64) 0 p w b m zs) : Calls Try.prog 19 #[.pointer (some ⟨b, 0, none⟩)] w fun e w' => e = .returned (.int .i64 zs.length) ∧ w = w' := by
  obtain ⟨a, c, h1, -⟩ := h
  obtain ⟨⟨c0, c1⟩, -⟩ := h1.two
  clear h1
  go_enter Try.func19, Try.ntmps19
  go_wp2
  go_ret
  exact ⟨rfl, rfl⟩

set_option maxHeartbeats 1000000 in
theorem ifull_any (w : World) (p : Nat → Prop) (b m : Nat) (zs : List Int) (h : QAt (Value.int .i64) 0 p w b m zs) : Calls Try.prog 20 #[.pointer (some ⟨b, 0, none⟩)] w fun e w' => e = .returned (.bool (decide (zs.length = m))) ∧ Grow w w' := by
  have hl := ilen_any w.drew p b m zs (h.grow (Grow.refl w).drew)
  obtain ⟨a, c, h1, -⟩ := h
  have kx : ∀ w', Grow w.drew w' → w'.cell? ⟨b, 1, none⟩ = some (.int .i64 m) := fun w' g => ((h1.grow (w' := w') ((Grow.refl w).drew.trans g)).two).1.2
  have E : Hid (decide (zs.length = m) = decide ((zs.length : Int) = (m : Int))) := by show decide _ = decide _; rw [decide_eq_decide]; omega
  clear h1
  go_enter Try.func20, Try.ntmps20
  go_wp2
  refine wp_region_sched (by kernel_rfl) [(0, false), (2, false), (3, false), (4, false), (5, false), (1, true), (6, false), (7, false)] (by kernel_rfl) (by kernel_rfl) rfl (fun _ _ d _ _ h => by cases d <;> exact h) ?_
  simp only [inOrder, List.filterMap_cons, List.filterMap_nil, List.getElem?_toArray, List.getElem?_cons_zero, List.getElem?_cons_succ, Option.map_some]
  repeat (first
    | (refine wpS_move rfl ?_; simp only [Act.eval, Act.put, Array.getD_eq_getD_getElem?, List.getElem?_toArray, List.getElem?_cons_zero, List.getElem?_cons_succ, Option.getD_some, List.setIfInBounds_toArray, List.set_cons_zero, List.set_cons_succ])
    | (refine wpS_assign rfl ?_; simp only [Act.eval, Act.put, Array.getD_eq_getD_getElem?, List.getElem?_toArray, List.getElem?_cons_zero, List.getElem?_cons_succ, Option.getD_some, List.setIfInBounds_toArray, List.set_cons_zero, List.set_cons_succ])
    | (refine wpS_read (v := ?_) rfl ?_ ?_; rotate_left; (focus (intro w' hG; have k1 := kx w' hG; go_simp; try (with_reducible rfl))); simp only [Act.put, List.setIfInBounds_toArray, List.set_cons_zero, List.set_cons_succ])
    | (refine wpS_skip rfl ?_; simp only [Act.put, List.setIfInBounds_toArray, List.set_cons_zero, List.set_cons_succ]))
  refine wpS_call (f := ?_) (args := ?_) (by rfl) ?_ ?_
  rotate_left 2; focus (go_simp; constructor <;> with_reducible rfl)
  refine (hl).mono ?_
  rintro e w1 ⟨rfl, rfl⟩
  refine ⟨_, rfl, Grow.refl _, ?_⟩
  simp only [Act.put, List.setIfInBounds_toArray, List.set_cons_zero, List.set_cons_succ]
  repeat (first
    | (refine wpS_move rfl ?_; simp only [Act.eval, Act.put, Array.getD_eq_getD_getElem?, List.getElem?_toArray, List.getElem?_cons_zero, List.getElem?_cons_succ, Option.getD_some, List.setIfInBounds_toArray, List.set_cons_zero, List.set_cons_succ])
    | (refine wpS_assign rfl ?_; simp only [Act.eval, Act.put, Array.getD_eq_getD_getElem?, List.getElem?_toArray, List.getElem?_cons_zero, List.getElem?_cons_succ, Option.getD_some, List.setIfInBounds_toArray, List.set_cons_zero, List.set_cons_succ])
    | (refine wpS_read (v := ?_) rfl ?_ ?_; rotate_left; (focus (intro w' hG; skip; go_simp; try (with_reducible rfl))); simp only [Act.put, List.setIfInBounds_toArray, List.set_cons_zero, List.set_cons_succ])
    | (refine wpS_skip rfl ?_; simp only [Act.put, List.setIfInBounds_toArray, List.set_cons_zero, List.set_cons_succ]))
  refine wpS_nil ?_
  clear kx hl
  go_wp2
  go_ret
  exact ⟨by rw [E.out]; rfl, (Grow.refl w).drew⟩

set_option maxHeartbeats 1000000 in
theorem ifirst_any (w : World) (p : Nat → Prop) (b m : Nat) (zs : List Int) (h : QAt (Value.int .i64) 0 p w b m zs) : Calls Try.prog 16 #[.pointer (some ⟨b, 0, none⟩)] w fun e w' => e = .returned (.tuple #[(Value.int .i64) (zs.getD 0 0), .bool (decide (0 < zs.length))]) ∧ w = w' := by
  have hl := ilen_any w p b m zs h
  obtain ⟨a, c, h1, h2, -⟩ := h
  obtain ⟨⟨c0, c1⟩, -⟩ := h1.two
  by_cases h0 : zs = []
  · subst h0
    clear h1 h2 c0 c1
    simp only [List.length_nil] at hl
    go_enter Try.func16, Try.ntmps16
    go_wp2_with fail
    refine hl.mono ?_
    rintro e w1 ⟨rfl, rfl⟩
    go_wp2
    go_ret2
    exact ⟨rfl, rfl⟩
  · have hpos : 0 < zs.length := List.length_pos_iff.2 h0
    obtain ⟨g, o, rfl, hg, hc⟩ := h2.rd.addr hpos
    have k0 := hc 0 hpos
    have E : Hid (decide (0 < zs.length) = true) := decide_eq_true hpos
    have hlm := h2.rd.len
    unfold maxLen at hlm
    rw [Nat.add_zero] at k0
    generalize zs.getD 0 0 = x at k0
    have hne : ((zs.length : Int) == 0) = false := by rw [beq_eq_false_iff_ne]; omega
    have hp' : 0 < (zs.length : Int) := by omega
    clear h1 h2 c1 hc h0
    go_enter Try.func16, Try.ntmps16
    go_wp2_with fail
    refine hl.mono ?_
    rintro e w1 ⟨rfl, rfl⟩
    go_wp2
    go_ret2
    exact ⟨by rw [E.out]; rfl, rfl⟩

set_option maxHeartbeats 2000000 in
theorem idel_any (w : World) (p : Nat → Prop) (v : Value) (zs : List Int) (h : OwnV (Value.int .i64) 0 p w v zs) (hpos : 0 < zs.length) :
    Calls Try.prog 26 #[v, .int .i64 0, .int .i64 1] w fun e w' => ∃ v', e = .returned v' ∧ OwnV (Value.int .i64) 0 p w' v' (zs.drop 1) ∧ UpdS p w w' := by
  obtain ⟨i0, hi, hz0, hz1, hz2⟩ := info_parts Try.infoIq
  obtain ⟨g, o, c, W1, W2, rfl, hlc, hcm, hap, hcl, ho, hu, hu1⟩ := del_first (P := Try.prog) (t := 22) (e := 3) i0 Try.underlying22 hi hz1 zeroIq rfl oneIq h hpos
  have HF : Hid (OwnV (Value.int .i64) 0 p W2 (.slice (some ⟨g, o, none⟩) (zs.length - 1) c) (zs.drop 1) ∧ UpdS p w W2 ∧ UpdS p w.drew W1) := ⟨ho, hu, hu1⟩
  clear h ho hu hu1 hi hz0 hz1 hz2
  unfold maxLen at hcm
  generalize zs.length = L at hpos hlc hap hcl HF
  obtain ⟨A, hA⟩ : ∃ A : Option Addr, A = (if c = 1 then some ⟨g, o, none⟩ else some ⟨g, o + 1, none⟩) := ⟨_, rfl⟩
  rw [← hA] at hap
  have hA' := hA.symm
  have hcL : ¬ c = L - 1 := by omega
  have h1L : 1 ≤ L := hpos
  have h1c : 1 ≤ c := by omega
  have h1i : (1 : Int) ≤ (L : Int) := by omega
  have h2i : ((L - 1 : Nat) : Int) ≤ (L : Int) := by omega
  have h2n : L - 1 ≤ L := by omega
  have h3n : L - 1 ≤ c := by omega
  clear hA
  go_enter Try.func26, Try.ntmps26
  go_wp2
  refine wp_region_schedG (UpdS p) (UpdS.refl _) (fun _ _ _ => UpdS.trans) (by kernel_rfl) [(0, false), (1, false), (2, false), (3, false), (4, false), (5, false), (6, true), (7, false)] (by kernel_rfl) (by kernel_rfl) rfl (fun _ _ d _ _ h => by cases d <;> exact h) ?_
  simp only [inOrder, List.filterMap_cons, List.filterMap_nil, List.getElem?_toArray, List.getElem?_cons_zero, List.getElem?_cons_succ, Option.map_some]
  repeat (first
    | (refine wpS_move rfl ?_; simp only [Act.eval, Act.put, Array.getD_eq_getD_getElem?, List.getElem?_toArray, List.getElem?_cons_zero, List.getElem?_cons_succ, Option.getD_some, List.setIfInBounds_toArray, List.set_cons_zero, List.set_cons_succ])
    | (refine wpS_assign rfl ?_; simp only [Act.eval, Act.put, Array.getD_eq_getD_getElem?, List.getElem?_toArray, List.getElem?_cons_zero, List.getElem?_cons_succ, Option.getD_some, List.setIfInBounds_toArray, List.set_cons_zero, List.set_cons_succ])
    | (refine wpS_read (v := ?_) rfl ?_ ?_; rotate_left; (focus (intro w' hG; skip; go_simp; try (with_reducible rfl))); simp only [Act.put, List.setIfInBounds_toArray, List.set_cons_zero, List.set_cons_succ])
    | (refine wpS_skip rfl ?_; simp only [Act.put, List.setIfInBounds_toArray, List.set_cons_zero, List.set_cons_succ]))
  refine wpS_act rfl (exec_app (P := Try.prog) rfl rfl rfl (hap _)) HF.out.2.2 ?_
  simp only [Act.put, List.setIfInBounds_toArray, List.set_cons_zero, List.set_cons_succ]
  repeat (first
    | (refine wpS_move rfl ?_; simp only [Act.eval, Act.put, Array.getD_eq_getD_getElem?, List.getElem?_toArray, List.getElem?_cons_zero, List.getElem?_cons_succ, Option.getD_some, List.setIfInBounds_toArray, List.set_cons_zero, List.set_cons_succ])
    | (refine wpS_assign rfl ?_; simp only [Act.eval, Act.put, Array.getD_eq_getD_getElem?, List.getElem?_toArray, List.getElem?_cons_zero, List.getElem?_cons_succ, Option.getD_some, List.setIfInBounds_toArray, List.set_cons_zero, List.set_cons_succ])
    | (refine wpS_read (v := ?_) rfl ?_ ?_; rotate_left; (focus (intro w' hG; skip; go_simp; try (with_reducible rfl))); simp only [Act.put, List.setIfInBounds_toArray, List.set_cons_zero, List.set_cons_succ])
    | (refine wpS_skip rfl ?_; simp only [Act.put, List.setIfInBounds_toArray, List.set_cons_zero, List.set_cons_succ]))
  refine wpS_nil ?_
  clear hap hA'
  go_wp2
  go_ret
  exact ⟨_, rfl, HF.out.1, HF.out.2.1⟩


set_option maxHeartbeats 1000000 in
theorem iput_any (w : World) (p : Nat → Prop) (b m : Nat) (zs : List Int) (h : QAt (Value.int .i64) 0 p w b m zs) (x : Int) : Calls Try.prog 15 #[.pointer (some ⟨b, 0, none⟩), (Value.int .i64) x] w fun e w' => e = .returned (.int .i64 (putE m zs.length)) ∧ ∃ p', QAt (Value.int .i64) 0 p' w' b m (putL m zs x) ∧ (∀ i, p' i → p i ∨ w.heap.size ≤ i) ∧ UpdS (fun i => p i ∨ i = b) w w' := by
  obtain ⟨i0, hi, hz0, hz1, hz2⟩ := info_parts Try.infoIq
  have hfu := ifull_any w p b m zs h
  by_cases hm : zs.length = m
  · have E : Hid (putE m zs.length = 8 ∧ putL m zs x = zs) := ⟨if_pos hm, if_pos hm⟩
    have H : Hid (QAt (Value.int .i64) 0 p w b m zs) := h
    rw [E.out.1, E.out.2]
    rw [decide_eq_true hm] at hfu
    clear h hm E hi hz0 hz1 hz2
    go_enter Try.func15, Try.ntmps15
    go_wp2_with fail
    refine hfu.mono ?_
    rintro e w1 ⟨rfl, g1⟩
    go_wp2
    go_ret
    exact ⟨rfl, p, H.out.grow g1, fun i hi => .inl hi, g1.s⟩
  · have E : Hid (putE m zs.length = 0 ∧ putL m zs x = zs ++ [x]) := ⟨if_neg hm, if_neg hm⟩
    rw [E.out.1, E.out.2]
    rw [decide_eq_false hm] at hfu
    obtain ⟨a, c, h1, h2, h3, h4, h5, h6⟩ := h
    have H : Hid (VarAt w b [.slice a zs.length c, .int .i64 m] ∧ OwnV (Value.int .i64) 0 p w (.slice a zs.length c) zs ∧ zs.length < m ∧ m ≤ 1000 ∧ ¬ p b ∧ ∀ i, p i → i < w.heap.size) := ⟨h1, h2, by show zs.length < m; omega, h4, h5, h6⟩
    have hlen : zs.length ≤ 1000 := by omega
    clear h1 h2 h3 h4 h5 h6 hm E
    go_enter Try.func15, Try.ntmps15
    go_wp2_with fail
    refine hfu.mono ?_
    rintro e w1 ⟨rfl, g1⟩
    have hv1 := H.out.1.grow g1
    obtain ⟨⟨c0, c1⟩, f0, -⟩ := hv1.two
    have ho := (H.out.2.1.grow g1).grow ((Grow.refl w1).alloc (.cells #[(Value.int .i64) x] 3))
    have HG : Hid (Grow w w1) := g1
    have hb1 : b < w1.heap.size := hv1.lt
    clear hv1 g1 hfu c1
    go_wp2_with (at_builtin; refine wpList_appV (f := (Value.int .i64)) (d := 0) rfl (.tmp 11) (.tmp 13) 22 22 rfl i0 ((Value.int .i64) 0) 8 Try.underlying22 hi hz0 hz1 hz2 rfl rfl rfl ho (Src.oneV (w := w1) Try.underlying22 (Value.int .i64) x (oneIq x) 3) (by simp only [maxLen, List.length_singleton]; omega) (by simp only [List.length_singleton]; omega) ?_)
    intro v' w' ho' hu'
    obtain ⟨a', c', hv'⟩ := ho'.shape
    generalize (zs ++ [x]).length = n' at hv'
    subst hv'
    have hu2 : UpdS p w w' := ((HG.out.trans ((Grow.refl w1).alloc _)).s).trans hu'
    have hv2 := H.out.1.upd hu2 H.out.2.2.2.2.1
    obtain ⟨⟨c0', c1'⟩, f0', -⟩ := hv2.two
    have hsz : (w1.alloc (.cells #[(Value.int .i64) x] 3)).heap.size = w1.heap.size + 1 := World.size_alloc _ _
    have HF : Hid (∃ p', QAt (Value.int .i64) 0 p' (w'.setCell ⟨b, 0, none⟩ (.slice a' n' c')) b m (zs ++ [x]) ∧ (∀ i, p' i → p i ∨ w.heap.size ≤ i) ∧ UpdS (fun i => p i ∨ i = b) w (w'.setCell ⟨b, 0, none⟩ (.slice a' n' c'))) := by
      have ho2 := ho'.mono (q := fun i => (p i ∨ w.heap.size ≤ i) ∧ i < w'.heap.size) (fun i hi hp => ⟨hp.imp id (fun e => by have h1 := HG.out.size; omega), hi⟩)
      refine ⟨fun i => (p i ∨ w.heap.size ≤ i) ∧ i < w'.heap.size, QAt.lay (q := p) hv2 _ ho2 (by rw [List.length_append, List.length_singleton]; exact H.out.2.2.1) H.out.2.2.2.1 (fun hp => ?_) (fun i hi => hi.2), fun i hi => hi.1, (hu2.mono (fun i hi => .inl hi)).trans ((upd_one w' b 0 _).mono (fun i hi => .inr hi))⟩
      have := H.out.1.lt
      exact hp.1.elim H.out.2.2.2.2.1 (fun h => by omega)
    clear ho ho' hu' hu2 hv2 c1' c0 f0 hsz
    go_wp2
    go_ret
    exact ⟨rfl, HF.out⟩

set_option maxHeartbeats 1000000 in
theorem itake_any (w : World) (p : Nat → Prop) (b m : Nat) (zs : List Int) (h : QAt (Value.int .i64) 0 p w b m zs) : Calls Try.prog 12 #[.pointer (some ⟨b, 0, none⟩)] w fun e w' => e = .returned (.tuple #[(Value.int .i64) (zs.getD 0 0), .bool (decide (0 < zs.length))]) ∧ QAt (Value.int .i64) 0 p w' b m (zs.drop 1) ∧ UpdS (fun i => p i ∨ i = b) w w' := by
  have hfi := ifirst_any w p b m zs h
  by_cases h0 : 0 < zs.length
  · obtain ⟨a, c, h1, h2, h3, h4, h5, h6⟩ := h
    have hde := idel_any w p (.slice a zs.length c) zs h2 h0
    have H : Hid (VarAt w b [.slice a zs.length c, .int .i64 m] ∧ zs.length ≤ m ∧ m ≤ 1000 ∧ ¬ p b ∧ ∀ i, p i → i < w.heap.size) := ⟨h1, h3, h4, h5, h6⟩
    obtain ⟨⟨c0, c1⟩, f0, -⟩ := h1.two
    rw [decide_eq_true h0] at hfi ⊢
    generalize zs.getD 0 0 = x at hfi ⊢
    clear h1 h2 h3 h4 h5 h6 h0 c1
    go_enter Try.func12, Try.ntmps12
    go_wp2_with fail
    refine hfi.mono ?_
    rintro e w1 ⟨rfl, rfl⟩
    go_wp2_with fail
    refine hde.mono ?_
    rintro e w2 ⟨v2, rfl, ho2, hu2⟩
    obtain ⟨a', c', hv'⟩ := ho2.shape
    generalize (zs.drop 1).length = n' at hv'
    subst hv'
    have hv2 := H.out.1.upd hu2 H.out.2.2.2.1
    obtain ⟨⟨c0', c1'⟩, f0', -⟩ := hv2.two
    have HF : Hid (QAt (Value.int .i64) 0 p (w2.setCell ⟨b, 0, none⟩ (.slice a' n' c')) b m (zs.drop 1) ∧ UpdS (fun i => p i ∨ i = b) w (w2.setCell ⟨b, 0, none⟩ (.slice a' n' c'))) :=
      ⟨QAt.lay (q := p) hv2 _ ho2 (by have := H.out.2.1; rw [List.length_drop]; omega) H.out.2.2.1 H.out.2.2.2.1 (fun i hi => Nat.lt_of_lt_of_le (H.out.2.2.2.2 i hi) hu2.size), (hu2.mono (fun i hi => .inl hi)).trans ((upd_one w2 b 0 _).mono (fun i hi => .inr hi))⟩
    clear ho2 hu2 hv2 c1' c0 f0 hfi hde
    go_wp2
    go_ret2
    exact ⟨rfl, HF.out⟩
  · have H : Hid (QAt (Value.int .i64) 0 p w b m zs) := h
    have hz : zs = [] := List.eq_nil_of_length_eq_zero (by omega)
    subst hz
    simp only [List.length_nil, List.getD_nil, Nat.lt_irrefl, decide_false] at hfi
    clear h h0
    go_enter Try.func12, Try.ntmps12
    go_wp2_with fail
    refine hfi.mono ?_
    rintro e w1 ⟨rfl, rfl⟩
    go_wp2
    go_ret2
    exact ⟨rfl, H.out, UpdS.refl _ _⟩
end Go.Proofs.Ytmnaadbemlecpaa
