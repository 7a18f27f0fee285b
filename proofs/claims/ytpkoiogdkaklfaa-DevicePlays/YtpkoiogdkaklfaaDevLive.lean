/-
  The walk of the law's example of stage 9. Conditions: none.
-/
import Derived.Test.YtpkoiogdkaklfaaDevGo
import Derived.Test.YtpkoiogdkaklfaaDevNew
import Derived.Test.YtpkoiogdkaklfaaMk16
import Derived.Test.YtpkoiogdkaklfaaTree
import Derived.Lib.SlBytesConst
namespace Go.Proofs.Ytpkoiogdkaklfaa
open Go.RowKit
set_option linter.unusedVariables false
set_option linter.unusedSimpArgs false

/-- an added stream: the device's rows do not lie in it -/
theorem DevAt.beside {w : World} {p : Nat → Prop} {b bl bt s : Nat} {las lat : List (List Int)} {hd : List Int} (h : DevAt w p b bl bt s las lat hd) {x : Nat} (hx : w.heap.size ≤ x) : DevAt w (fun i => p i ∧ i ≠ x) b bl bt s las lat hd :=
  h.mono (fun i hi hp => ⟨hp, by omega⟩) (fun hh => h.nots.1 hh.1) (fun hh => h.nots.2.1 hh.1) (fun hh => h.nots.2.2 hh.1)
theorem DevAt.back {w : World} {p : Nat → Prop} {b bl bt s x : Nat} {las lat : List (List Int)} {hd : List Int} (h : DevAt w (fun i => p i ∧ i ≠ x) b bl bt s las lat hd) (hx : x ≠ b ∧ x ≠ bl ∧ x ≠ bt) : DevAt w p b bl bt s las lat hd :=
  h.mono (fun i hi hp => hp.1) (fun hh => h.nots.1 ⟨hh, Ne.symm hx.1⟩) (fun hh => h.nots.2.1 ⟨hh, Ne.symm hx.2.1⟩) (fun hh => h.nots.2.2 ⟨hh, Ne.symm hx.2.2⟩)

theorem readL_at {las lat : List (List Int)} {i : Nat} (h : lat.getD i [] = []) (hi : i < las.length) : readL las lat i = opened (las.getD i []) := by
  unfold readL
  rw [if_neg (fun hh => hh.1 (by simpa using h))]
  unfold lastingL
  rw [if_pos (by omega)]; rfl
theorem lastingL_at {las : List (List Int)} {i : Nat} (hi : i < las.length) : lastingL las i = opened (las.getD i []) := by
  unfold lastingL
  rw [if_pos (by omega)]; rfl
theorem readL_later {las lat : List (List Int)} {i : Nat} (h : lat.getD i [] ≠ []) (hi : i < lat.length) : readL las lat i = opened (lat.getD i []) := by
  unfold readL
  rw [if_pos ⟨by simpa using h, by omega, by omega⟩]; rfl
theorem opened_zcell : opened zcell = (List.replicate 16 0, 0) := opened_sealed _ (by simp)
theorem repl_at (n i : Nat) (h : i < n) : (List.replicate n zcell).getD i [] = zcell := by simp [List.getD, h]
theorem repl_nil (n i : Nat) : (List.replicate n ([] : List Int)).getD i [] = [] := by
  simp only [List.getD, List.getElem?_replicate]
  split <;> rfl

theorem rd_one (w : World) (x : Bool) (e : TypeId) : RdV Value.bool false (fun i => i = w.heap.size) (w.alloc (.cells #[.bool x] e)) (.slice (some ⟨w.heap.size, 0, none⟩) 1 1) [x] := by
  refine ⟨_, 1, rfl, by simp, by simp [maxLen], fun i hi => ⟨w.heap.size, 0, rfl, rfl, ?_⟩⟩
  refine (World.cell?_alloc_new w _ _ _).trans ?_
  have : i = 0 := by simp at hi; omega
  subst this
  simp

/-- bytes laid in a block with a mark -/
theorem rd_marked (zs : List Int) (e : TypeId) (fr : Nat × Nat) (w : World) (h : zs.length ≤ 1000000) : RdV (Value.int .u8) 0 (fun i => i = w.heap.size) (w.alloc (.cells (zs.map (Value.int .u8)).toArray e fr)) (.slice (some ⟨w.heap.size, 0, none⟩) zs.length zs.length) zs := by
  refine ⟨_, zs.length, rfl, Nat.le_refl _, by simp only [maxLen]; omega, fun i hi => ⟨w.heap.size, 0, rfl, rfl, ?_⟩⟩
  refine (World.cell?_alloc_mark w _ _ _ _).trans ?_
  simp [List.getD, List.getElem?_eq_getElem hi]

set_option maxRecDepth 8000 in
set_option maxHeartbeats 4000000 in
theorem dlives_any (w : World) : Calls Try.prog 14 #[] w fun e w' => e = .returned (.bool true) ∧ Grow w w' := by
  have hN : Calls Try.prog 10 #[.int .i64 5] w fun e w' => ∃ b, e = .returned (.tuple #[.pointer (some ⟨b, 0, none⟩), .int .i64 0]) ∧ ∃ bl bt, DevAt w' (fun i => i ≠ b ∧ i ≠ bl ∧ i ≠ bt) b bl bt 0 (List.replicate 5 zcell) (List.replicate 5 []) [] ∧ Grow w w' ∧ w.heap.size ≤ b ∧ w.heap.size ≤ bl ∧ w.heap.size ≤ bt := dnew_yes 5 w (by omega) (by omega)
  go_enter Try.func14, Try.ntmps14
  go_wp2_with fail
  refine hN.mono ?_
  rintro e w1 ⟨b, rfl, bl, bt, hD1, hg1, hb, hbl, hbt⟩
  have hlt := hD1.lt
  obtain ⟨w2, hw2⟩ : ∃ w2, w1.alloc (.cells #[.int .u8 48, .int .u8 49, .int .u8 50, .int .u8 51, .int .u8 52, .int .u8 53, .int .u8 54, .int .u8 55, .int .u8 56, .int .u8 57, .int .u8 97, .int .u8 98, .int .u8 99, .int .u8 100, .int .u8 101, .int .u8 102] 5 (16, 17)) = w2 := ⟨_, rfl⟩
  have g12 : Grow w1 w2 := by rw [← hw2]; exact (Grow.refl w1).alloc _
  have ho2 : RdV (Value.int .u8) 0 (fun i => i = w1.heap.size) w2 (.slice (some ⟨w1.heap.size, 0, none⟩) 16 16) [48, 49, 50, 51, 52, 53, 54, 55, 56, 57, 97, 98, 99, 100, 101, 102] := by
    rw [← hw2]
    exact rd_marked [48, 49, 50, 51, 52, 53, 54, 55, 56, 57, 97, 98, 99, 100, 101, 102] 5 (16, 17) w1 (by simp)
  have hoct : Oct [48, 49, 50, 51, 52, 53, 54, 55, 56, 57, 97, 98, 99, 100, 101, 102] := fun x hx => by simp at hx; omega
  have hWr : Calls Try.prog 19 #[.pointer (some ⟨b, 0, none⟩), .int .i64 3, .slice (some ⟨w1.heap.size, 0, none⟩) 16 16] w2 fun e w' => e = .returned (.int .i64 0) ∧ DevAt w' (fun i => i ≠ b ∧ i ≠ bl ∧ i ≠ bt) b bl bt 1 (List.replicate 5 zcell) ((List.replicate 5 []).set 3 ([48, 49, 50, 51, 52, 53, 54, 55, 56, 57, 97, 98, 99, 100, 101, 102] ++ le 4 (chk 0 [48, 49, 50, 51, 52, 53, 54, 55, 56, 57, 97, 98, 99, 100, 101, 102] : Nat))) [] ∧ UpdS (fun i => i = bt) w2 w' :=
    dwrite_any w2 _ b bl bt 0 _ _ _ (hD1.grow g12) 3 (by decide) _ _ _ ho2.i hoct (by omega) (fun i hi => by have := g12.size; omega)
  have HZ : Hid (([48, 49, 50, 51, 52, 53, 54, 55, 56, 57, 97, 98, 99, 100, 101, 102] ++ le 4 (chk 0 [48, 49, 50, 51, 52, 53, 54, 55, 56, 57, 97, 98, 99, 100, 101, 102] : Nat) : List Int) ≠ []) := by show (_ : List Int) ≠ []; simp
  generalize ([48, 49, 50, 51, 52, 53, 54, 55, 56, 57, 97, 98, 99, 100, 101, 102] ++ le 4 (chk 0 [48, 49, 50, 51, 52, 53, 54, 55, 56, 57, 97, 98, 99, 100, 101, 102] : Nat) : List Int) = Z at hWr HZ
  have HL : Hid (laterL ((List.replicate 5 []).set 3 Z) 0 5 = [3]) := by
    show laterL ((List.replicate 5 []).set 3 Z) 0 5 = [3]
    have hz := HZ.out
    cases Z with
    | nil => exact absurd rfl hz
    | cons x zs => rfl
  have HG1 : Hid (Grow w w2 ∧ b < w2.heap.size ∧ bl < w2.heap.size ∧ bt < w2.heap.size ∧ w.heap.size ≤ b ∧ w.heap.size ≤ bl ∧ w.heap.size ≤ bt) := ⟨hg1.trans g12, by have := g12.size; omega, by have := g12.size; omega, by have := g12.size; omega, hb, hbl, hbt⟩
  clear hD1 hg1 hlt g12 ho2 hoct hb hbl hbt hN
  have kc := fun (w : World) (C : Array Value) (n c : Nat) => Lib.run_convert_bytes_const (P := Try.prog) w 29 5 C n c Try.underlying29 Try.underlying5
  go_wp2_with fail
  (try rw [hw2])
  refine hWr.mono ?_
  rintro e w3 ⟨rfl, hD3, hu3⟩
  have h23 := hu3.size
  have hrd4 := rd_one w3 false 4
  have hbn := bnew_any _ [false] _ _ hrd4 (by simp)
  have HD4 : Hid (DevAt (w3.alloc (.cells #[.bool false] 4)) (fun i => i ≠ b ∧ i ≠ bl ∧ i ≠ bt) b bl bt 1 (List.replicate 5 zcell) ((List.replicate 5 []).set 3 Z) [] ∧ Grow w (w3.alloc (.cells #[.bool false] 4)) ∧ w2.heap.size ≤ (w3.alloc (.cells #[.bool false] 4)).heap.size) :=
    ⟨hD3.grow ((Grow.refl w3).alloc _), (UpdS.new HG1.out.1 hu3 (fun i hi => by have := HG1.out; omega)).trans ((Grow.refl w3).alloc _), by rw [World.size_alloc]; omega⟩
  clear hD3 hu3 h23 hWr hw2 hrd4
  obtain ⟨w4, hw4⟩ : ∃ w4, w3.alloc (.cells #[.bool false] 4) = w4 := ⟨_, rfl⟩
  rw [hw4] at HD4 hbn
  have hsz4 : w2.heap.size ≤ w4.heap.size := HD4.out.2.2
  clear kc
  go_wp2_with fail
  (try rw [hw4])
  refine hbn.mono ?_
  rintro e w5 ⟨sb, sg, rfl, hS5, hg5, hsg, hsb⟩
  have hne : sb ≠ b ∧ sb ≠ bl ∧ sb ≠ bt ∧ sg ≠ bl ∧ sg ≠ bt := by have := HG1.out; omega
  have hC : Calls Try.prog 22 #[.pointer (some ⟨b, 0, none⟩), .int .i64 0, .int .i64 5, .pointer (some ⟨sb, 0, none⟩)] w5 fun e w' => ∃ n, e = .returned (.tuple #[]) ∧
      DevAt w' (fun i => (i ≠ b ∧ i ≠ bl ∧ i ≠ bt) ∧ i ≠ sb) b bl bt 1 (List.replicate 5 zcell) (((List.replicate 5 []).set 3 Z).set 3 []) [] ∧ StrAt w' sb sg [] n ∧ UpdS (fun i => i = bl ∨ i = bt ∨ i = sb) w5 w' := by
    have := dcrash_any w5 (fun i => (i ≠ b ∧ i ≠ bl ∧ i ≠ bt) ∧ i ≠ sb) b bl bt 1 (List.replicate 5 zcell) ((List.replicate 5 []).set 3 Z) [] ((HD4.out.1.beside (x := sb) hsb).grow hg5) 0 5 (by decide) (by decide) sb sg [false] hS5 hne (fun hh => hh.2 rfl)
    rw [HL.out] at this
    exact this
  have HG5 : Hid (Grow w w5 ∧ w.heap.size ≤ sb) := ⟨HD4.out.2.1.trans hg5, by have := HD4.out.2.1.size; omega⟩
  clear hbn hS5 hg5 hsg hsb hsz4
  go_wp2_with fail
  refine hC.mono ?_
  rintro e w6 ⟨n, rfl, hD6, -, hu6⟩
  have hR : Calls Try.prog 15 #[.pointer (some ⟨b, 0, none⟩), .int .i64 3] w6 fun e w' => ∃ v', e = .returned (.tuple #[v', .int .i64 0]) ∧ Own .u8 w6.heap.size w' v' (List.replicate 16 0) ∧ Grow w6 w' := by
    have h1 := dread_any w6 _ b bl bt 1 _ _ _ hD6 3 (by decide)
    have h2 : readL (List.replicate 5 zcell) (((List.replicate 5 []).set 3 Z).set 3 []) 3 = (List.replicate 16 0, 0) := by
      rw [show (3 : Int) = ((3 : Nat) : Int) from rfl, readL_at (by rw [getD_set _ _ _ _ _ (by simp), if_pos rfl]) (by simp), repl_at 5 3 (by omega), opened_zcell]
    rw [h2] at h1
    exact h1
  have HG6 : Hid (Grow w w6) := UpdS.new HG5.out.1 hu6 (fun i hi => by have h1 := HG1.out; have h2 := HG5.out.2; omega)
  clear hD6 hu6 hC
  go_wp2_with fail
  refine hR.mono ?_
  rintro e w7 ⟨v7, rfl, ho7, hg7⟩
  obtain ⟨a7, c7, hv7⟩ := ho7.shape
  rw [List.length_replicate] at hv7
  subst hv7
  have k8 : ∀ w', Grow w7.drew w' → (convert 29 9 (.slice a7 16 c7)).run Try.prog w' = .ok (.string (strOfNums (List.replicate 16 0))) w' := fun w' g => (Rd.below (Own.rd ho7) ((Grow.refl w7).drew.trans g)).string 29 9 5 Try.underlying29 Try.underlying5 Try.underlying9
  have HG7 : Hid (Grow w w7) := HG6.out.trans hg7
  clear ho7 hg7 hR
  go_wp2
  refine wp_region_sched (by kernel_rfl) [(0, false), (1, false), (2, false), (3, false), (4, false), (5, false), (6, false), (7, false), (8, false), (9, true), (10, false), (11, false), (12, false), (13, false)] (by kernel_rfl) (by kernel_rfl) rfl (fun _ _ d _ _ h => by cases d <;> exact h) ?_
  simp only [inOrder, List.filterMap_cons, List.filterMap_nil, List.getElem?_toArray, List.getElem?_cons_zero, List.getElem?_cons_succ, Option.map_some]
  repeat (first
    | (refine wpS_move rfl ?_; simp only [Act.eval, Act.put, Array.getD_eq_getD_getElem?, List.getElem?_toArray, List.getElem?_cons_zero, List.getElem?_cons_succ, Option.getD_some, List.setIfInBounds_toArray, List.set_cons_zero, List.set_cons_succ])
    | (refine wpS_assign rfl ?_; simp only [Act.eval, Act.put, Array.getD_eq_getD_getElem?, List.getElem?_toArray, List.getElem?_cons_zero, List.getElem?_cons_succ, Option.getD_some, List.setIfInBounds_toArray, List.set_cons_zero, List.set_cons_succ])
    | (refine wpS_read (v := ?_) rfl ?_ ?_; rotate_left; (focus (intro w' hG; have q8 := k8 w' hG; go_simp; try (with_reducible rfl))); simp only [Act.put, List.setIfInBounds_toArray, List.set_cons_zero, List.set_cons_succ])
    | (refine wpS_skip rfl ?_; simp only [Act.put, List.setIfInBounds_toArray, List.set_cons_zero, List.set_cons_succ]))
  obtain ⟨vm, wm, hm, hom, hgm⟩ := make16 w7.drew
  refine wpS_act (v := vm) (w' := wm) (by rfl) (by simp [execOp, Act.eval, hm, Result.andThen]) hgm ?_
  simp only [Act.put, List.setIfInBounds_toArray, List.set_cons_zero, List.set_cons_succ]
  have km : ∀ w', Grow wm w' → (convert 29 9 vm).run Try.prog w' = .ok (.string (strOfNums (List.replicate 16 0))) w' := fun w' g => (Rd.below (Own.rd hom) g).string 29 9 5 Try.underlying29 Try.underlying5 Try.underlying9
  repeat (first
    | (refine wpS_move rfl ?_; simp only [Act.eval, Act.put, Array.getD_eq_getD_getElem?, List.getElem?_toArray, List.getElem?_cons_zero, List.getElem?_cons_succ, Option.getD_some, List.setIfInBounds_toArray, List.set_cons_zero, List.set_cons_succ])
    | (refine wpS_assign rfl ?_; simp only [Act.eval, Act.put, Array.getD_eq_getD_getElem?, List.getElem?_toArray, List.getElem?_cons_zero, List.getElem?_cons_succ, Option.getD_some, List.setIfInBounds_toArray, List.set_cons_zero, List.set_cons_succ])
    | (refine wpS_read (v := ?_) rfl ?_ ?_; rotate_left; (focus (intro w' hG; have q9 := km w' hG; go_simp; try (with_reducible rfl))); simp only [Act.put, List.setIfInBounds_toArray, List.set_cons_zero, List.set_cons_succ])
    | (refine wpS_skip rfl ?_; simp only [Act.put, List.setIfInBounds_toArray, List.set_cons_zero, List.set_cons_succ]))
  refine wpS_nil ?_
  go_wp2
  go_ret
  exact ⟨rfl, (HG7.out.trans (Grow.refl w7).drew).trans hgm⟩
end Go.Proofs.Ytpkoiogdkaklfaa
