/-
  The walk of FifoPlays. Conditions: the theorem's own.
-/
import Derived.Test.YtmnaadbemlecpaaW10Row
import Derived.Test.YtmnaadbemlecpaaTree
import Derived.Deep.CutRange
namespace Go.Proofs.Ytmnaadbemlecpaa
open Go.RowKit
set_option linter.unusedVariables false
set_option linter.unusedSimpArgs false

/-- what holds at each step: the queue has qs, the document's queue (its variable at block bw, its row's value v) has ds -/
def PlayI (w : World) (b bw n : Nat) (u : World) (v : Value) (qs ds : List Int) : Prop :=
  ∃ p s, QAt (Value.int .i64) 0 p u b n qs ∧ RdV (Value.int .i64) 0 s u v ds ∧ VarAt u bw [.int .i64 n, v] ∧ Sep w.heap.size u.heap.size b p s (fun i => i = bw) ∧ Grow w u

theorem exec_allocQ {P : Program} {w : World} {ev : Operand → Value} {d : Option Tmp} {t ty : TypeId} {p : String} {af : Array Edge} {g : Option (Nat × Bool)} (cs : Array Value) (hz : ∀ w, (zeroValue t).run P w = .ok (.agg cs) w) :
    (execOp ev ⟨d, .alloc t, ty, p, af, g⟩).run P w = .ok (.value (.pointer (some ⟨w.heap.size, 0, none⟩))) (w.alloc (.cells cs t)) := by
  have hrun : (Instr.alloc t true (.tuple #[])).run P w = .ok (.pointer (some ⟨w.heap.size, 0, none⟩)) (w.alloc (.cells cs t)) := by
    simp [Instr.alloc, hz, newVar, newRow, Value.cells, Result.andThen]
  simp [execOp, hrun, Result.andThen]
theorem zeroQq (w : World) : (zeroValue 29).run Try.prog w = .ok (.agg #[.int .i64 0, .slice none 0 0]) w := by kernel_rfl

section
variable {w u u' : World} {b bw n : Nat} {v v' v0 : Value} {qs ds zs' : List Int} {p p' s : Nat → Prop}
theorem PlayI.grow (h : PlayI w b bw n u v qs ds) : Grow w u := by
  obtain ⟨_, _, _, _, _, _, h⟩ := h
  exact h
/-- memory was added -/
theorem PlayI.up (h : PlayI w b bw n u v qs ds) (hg : Grow u u') : PlayI w b bw n u' v qs ds := by
  obtain ⟨p, s, h1, h2, h3, h4, h5⟩ := h
  have hp : ∀ i, p i → i < u.heap.size := by obtain ⟨_, _, _, _, _, _, _, h⟩ := h1; exact h
  exact ⟨p, s, h1.grow hg, h2.grow hg, h3.grow hg, h4.to hg.size (fun i hi => ⟨.inl hi, Nat.lt_of_lt_of_le (hp i hi) hg.size⟩), h5.trans hg⟩
/-- the queue turned -/
theorem PlayI.q (hr : RdV (Value.int .i64) 0 s u v ds) (hv : VarAt u bw [.int .i64 n, v]) (hs : Sep w.heap.size u.heap.size b p s (fun i => i = bw)) (hg : Grow w u)
    (hq : QAt (Value.int .i64) 0 p' u' b n zs') (hp : ∀ i, p' i → p i ∨ u.heap.size ≤ i) (hu : UpdS (fun i => p i ∨ i = b) u u') : PlayI w b bw n u' v zs' ds := by
  have hl : ∀ i, p' i → i < u'.heap.size := by obtain ⟨_, _, _, _, _, _, _, h⟩ := hq; exact h
  have hs' := hs.to hu.size (fun i hi => ⟨hp i hi, hl i hi⟩)
  obtain ⟨h1, h2, h3, h4, h5, h6, h7, h8, h9⟩ := hs
  exact ⟨p', s, hq, hr.upd hu (fun i _ x e => e.elim (fun y => h2 i y x) (fun y => h6 (by rw [← y]; exact x))), hv.upd hu (fun e => e.elim (fun y => h3 bw y rfl) (fun y => h7 y.symm)), hs', UpdS.new hg hu (fun i hi => hi.elim (fun y => (h1 i (.inl y)).1) (fun y => by omega))⟩
/-- the document's queue turned -/
theorem PlayI.d (hq : QAt (Value.int .i64) 0 p u b n qs) (hv : VarAt u bw [.int .i64 n, v0]) (hs : Sep w.heap.size u.heap.size b p s (fun i => i = bw)) (hg : Grow w u)
    (hgu : Grow u u') (hr : RdV (Value.int .i64) 0 (fun i => s i ∨ u.heap.size ≤ i) u' v ds) : PlayI w b bw n ((u'.setCell ⟨bw, 0, none⟩ (.int .i64 n)).setCell ⟨bw, 1, none⟩ v) v qs ds := by
  have hu := upd_pair u' bw (.int .i64 n) v
  have hr2 := hr.mono (q := fun i => (s i ∨ u.heap.size ≤ i) ∧ i < u'.heap.size) (fun i hl h => ⟨h, hl⟩)
  have hsz : ((u'.setCell ⟨bw, 0, none⟩ (.int .i64 n)).setCell ⟨bw, 1, none⟩ v).heap.size = u'.heap.size := by simp
  have hs' := ((hs.rot).to (p' := fun i => (s i ∨ u.heap.size ≤ i) ∧ i < u'.heap.size) (n' := u'.heap.size) hgu.size (fun i h => h)).rot.rot
  have hs2 : Sep w.heap.size ((u'.setCell ⟨bw, 0, none⟩ (.int .i64 n)).setCell ⟨bw, 1, none⟩ v).heap.size b p (fun i => (s i ∨ u.heap.size ≤ i) ∧ i < u'.heap.size) (fun i => i = bw) := by rw [hsz]; exact hs'
  have hbw := hv.lt
  obtain ⟨h1, h2, h3, h4, h5, h6, h7, h8, h9⟩ := hs'
  have hB := (h1 bw (.inr (.inr rfl))).1
  exact ⟨p, _, (hq.grow hgu).upd hu h7 (fun i _ x => h3 i x), hr2.upd hu (fun i _ x => h4 i x), (hv.grow hgu).set2 _ _, hs2, UpdS.new (hg.trans hgu) hu (fun i hi => by omega)⟩
/-- the document's queue cleared -/
theorem PlayI.c (h : PlayI w b bw n u v qs ds) : PlayI w b bw n (u.setCell ⟨bw, 1, none⟩ (.slice none 0 0)) (.slice none 0 0) qs [] := by
  obtain ⟨p, s, h1, h2, hv, hs, h5⟩ := h
  have hu := upd_one u bw 1 (.slice none 0 0)
  have hsz : (u.setCell ⟨bw, 1, none⟩ (.slice none 0 0)).heap.size = u.heap.size := by simp
  have hs2 := hs
  rw [← hsz] at hs2
  obtain ⟨g1, g2, g3, g4, g5, g6, g7, g8, g9⟩ := hs
  have hB := (g1 bw (.inr (.inr rfl))).1
  exact ⟨p, s, h1.upd hu g7 (fun i _ x => g3 i x), RdV.nil _ _ _ _ _ _ (Nat.zero_le _), hv.set 1 _, hs2, UpdS.new h5 hu (fun i hi => by omega)⟩
end

set_option maxRecDepth 16000 in
set_option maxHeartbeats 8000000 in
theorem fifoPlays_walk (x : Int) (v1 : Value) (ls : List Int) (w : World) (p1 : Nat → Prop) (hx : (Lit.int .i64 x).wf = true) (hl : RdV (Value.int .i64) 0 p1 w v1 ls) (hls : ∀ y ∈ ls, (Lit.int .i64 y).wf = true) :
    Calls Try.prog 3 #[.int .i64 x, v1] w fun e w' => e = .returned (.bool true) ∧ Grow w w' := by
  have har := around_any x 5 w hx (by omega) (by omega)
  have hab := around_bd x 5 (by omega)
  generalize around x 5 = r at har hab
  obtain ⟨n0, rfl⟩ := Int.eq_ofNat_of_zero_le hab.1
  obtain ⟨n, hn⟩ : ∃ n, n = n0 + 1 := ⟨_, rfl⟩
  have hw1 : IntKind.i64.wrap (1 + (n0 : Int)) = (n : Int) := by rw [IntKind.wrap_i64]; omega
  have hn1 : 1 ≤ n := by omega
  have hn2 : n ≤ 5 := by omega
  obtain ⟨a1, c1, rfl⟩ := hl.shape
  have lm1 := hl.len
  unfold maxLen at lm1
  have HL : Hid (RdV (Value.int .i64) 0 p1 w (.slice a1 ls.length c1) ls) := hl
  clear hn hab hl
  go_enter Try.func3, Try.ntmps3
  go_wp2_with fail
  refine har.mono ?_
  rintro e w1 ⟨rfl, rfl⟩
  clear har
  go_wp2_with fail
  refine (inew_yes n w hn1 (by omega)).mono ?_
  rintro e w1 ⟨b, rfl, q1, g1, hb1⟩
  have H1 : Hid (PlayI w b w1.heap.size n (w1.alloc (.cells #[.int .i64 n, .slice none 0 0] 29)) (.slice none 0 0) [] []) := by
    have hb := q1.lt
    have hz := g1.size
    have ga : Grow w1 (w1.alloc (.cells #[.int .i64 n, .slice none 0 0] 29)) := (Grow.refl w1).alloc _
    have hv := VarAt.new w1 [.int .i64 n, .slice none 0 0] 29
    have hsz : (w1.alloc (.cells #[.int .i64 n, .slice none 0 0] 29)).heap.size = w1.heap.size + 1 := World.size_alloc _ _
    refine ⟨fun _ => False, fun _ => False, q1.grow ga, RdV.nil _ _ _ _ _ _ (Nat.zero_le _), hv, ⟨fun i hi => ?_, fun _ h => False.elim h, fun _ h => False.elim h, fun _ h => False.elim h, fun h => h, fun h => h, fun e => by omega, hb1, by omega⟩, g1.trans ga⟩
    rcases hi with h | h | h
    · exact h.elim
    · exact h.elim
    · rw [hsz]; omega
  clear q1 g1 hb1
  go_wp2
  generalize w1.alloc (.cells #[.int .i64 n, .slice none 0 0] 29) = w2 at H1 ⊢
  generalize w1.heap.size = bw at H1 ⊢
  go_loopg [9] 24 (fun k i wr => ∃ (j : Nat) (v : Value) (zs : List Int), k = 24 - j ∧ j ≤ 24 ∧ i = .int .i64 j ∧ Hid (PlayI w b bw n wr v zs zs))
  case atStart => exact ⟨0, _, [], rfl, Nat.zero_le _, rfl, H1⟩
  case round =>
    clear H1
    obtain ⟨j, v, zs, hk, hj, rfl, HI⟩ := hrel
    by_cases hlt : j < ls.length
    · have hlt' : (j : Int) < (ls.length : Int) := by omega
      by_cases h24 : j < 24
      · have h24' : (j : Int) < 24 := by omega
        have HJ : Hid (j < ls.length ∧ j < 24 ∧ gk = 24 - j) := ⟨hlt, h24, hk⟩
        obtain ⟨p, s, q, hr, hv, sp, gw⟩ := HI.out
        obtain ⟨g, o, e1, -, hc1⟩ := (HL.out.grow gw).addr (by omega)
        have f1 := hc1 j hlt
        have HX : Hid (∀ u, Grow w u → u.cell? ⟨g, o + j, none⟩ = some (.int .i64 (ls.getD j 0))) := fun u hu => by
          obtain ⟨g', o', e', -, hc'⟩ := (HL.out.grow hu).addr (by omega)
          rw [e1] at e'
          injection e' with e'
          injection e' with eb eo
          subst eb eo
          exact hc' j hlt
        have hyw : (Lit.int .i64 (ls.getD j 0)).wf = true := hls _ (by simp only [List.getD, List.getElem?_eq_getElem hlt, Option.getD_some]; exact List.getElem_mem hlt)
        generalize ls.getD j 0 = y at f1 HX hyw
        have hyb := bounds_i64 hyw
        subst e1
        obtain ⟨⟨c0, c1'⟩, fz0, fz1⟩ := hv.two
        obtain ⟨av, cv, hvv⟩ := hr.shape
        generalize zs.length = lv at hvv
        subst hvv
        have HC : Hid (QAt (Value.int .i64) 0 p wr b n zs ∧ RdV (Value.int .i64) 0 s wr (.slice av lv cv) zs ∧ VarAt wr bw [.int .i64 n, .slice av lv cv] ∧ Sep w.heap.size wr.heap.size b p s (fun i => i = bw) ∧ Grow w wr) := ⟨q, hr, hv, sp, gw⟩
        clear hc1 q hr hv sp gw hk hj hyw
        go_upto_if 49 with fail
        go_cut [10, 11, 12, 13, 14, 15, 16] from 35 to 150 (fun _ _ _ _ _ _ _ wx => ∃ (v : Value) (zs : List Int), Hid (PlayI w b bw n wx v zs zs))
        case first =>
          by_cases hneg : y < 0
          · obtain ⟨zf, hzf⟩ : ∃ z, z = zs.getD 0 0 := ⟨_, rfl⟩
            obtain ⟨df, hdf⟩ : ∃ d, d = decide (0 < zs.length) := ⟨_, rfl⟩
            have htk := rtake_any wr s (n : Int) (.slice av lv cv) zs HC.out.2.1
            have hit := fun u p' (h : QAt (Value.int .i64) 0 p' u b n zs) => itake_any u p' b n zs h
            rw [← hzf, ← hdf] at htk
            rw [← hzf, ← hdf] at hit
            clear hzf hdf
            go_wp2_with fail
            refine htk.mono ?_
            rintro e w2 ⟨v2, rfl, hr2, g2⟩
            obtain ⟨a2, c2, hv2⟩ := hr2.shape
            generalize (zs.drop 1).length = l2 at hv2
            subst hv2
            have ga : Grow w2 (w2.alloc (.cells #[.int .i64 n, .slice a2 l2 c2] 29)) := (Grow.refl w2).alloc _
            have hv3 : VarAt (w2.alloc (.cells #[.int .i64 n, .slice a2 l2 c2] 29)) w2.heap.size [.int .i64 n, .slice a2 l2 c2] := VarAt.new w2 [.int .i64 n, .slice a2 l2 c2] 29
            have HD : Hid (PlayI w b bw n (((w2.alloc (.cells #[.int .i64 n, .slice a2 l2 c2] 29)).setCell ⟨bw, 0, none⟩ (.int .i64 n)).setCell ⟨bw, 1, none⟩ (.slice a2 l2 c2)) (.slice a2 l2 c2) zs (zs.drop 1)) :=
              PlayI.d HC.out.1 HC.out.2.2.1 HC.out.2.2.2.1 HC.out.2.2.2.2 (g2.trans ga) ((hr2.grow ga).mono (fun i _ hi => .inl hi))
            have hvb := HC.out.2.2.1.grow (g2.trans ga)
            obtain ⟨w3, hw3⟩ : ∃ w3, (w2.alloc (.cells #[.int .i64 n, .slice a2 l2 c2] 29)) = w3 := ⟨_, rfl⟩
            rw [hw3] at hv3 HD hvb
            obtain ⟨⟨x0, x1⟩, -⟩ := hv3.two
            obtain ⟨⟨y0, y1⟩, fy0, fy1⟩ := hvb.two
            clear hr2 ga hv3 hvb g2 htk c0 c1' fz0 fz1 f1
            obtain ⟨w4, hw4⟩ : ∃ w4, ((w3.setCell ⟨bw, 0, none⟩ (.int .i64 n)).setCell ⟨bw, 1, none⟩ (.slice a2 l2 c2)) = w4 := ⟨_, rfl⟩
            rw [hw4] at HD
            go_wp2_with fail
            obtain ⟨p4, s4, q4, hr4, hv4, sp4, gw4⟩ := HD.out
            refine (hit w4 p4 q4).mono ?_
            rintro e w5 ⟨rfl, q5, hu5⟩
            have HE : Hid (PlayI w b bw n w5 (.slice a2 l2 c2) (zs.drop 1) (zs.drop 1)) := PlayI.q hr4 hv4 sp4 gw4 q5 (fun i hi => .inl hi) hu5
            clear q4 hr4 hv4 sp4 gw4 q5 hu5 x0 x1 y0 y1 fy0 fy1 hit hw3 hw4
            go_wp2
            go_meet
            exact ⟨_, _, HE⟩
          · by_cases h11 : y % 11 = 0
            · have h11b : (y % 11 == 0) = true := by rw [h11]; rfl
              have HD : Hid (PlayI w b bw n (wr.setCell ⟨bw, 1, none⟩ (.slice none 0 0)) (.slice none 0 0) zs []) := PlayI.c HI.out
              obtain ⟨w4, hw4⟩ : ∃ w4, wr.setCell ⟨bw, 1, none⟩ (.slice none 0 0) = w4 := ⟨_, rfl⟩
              rw [hw4] at HD
              clear h11
              go_wp2_with fail
              obtain ⟨p4, s4, q4, hr4, hv4, sp4, gw4⟩ := HD.out
              refine (iclear_any w4 p4 b n zs q4).mono ?_
              rintro e w5 ⟨rfl, q5, hu5⟩
              have HE : Hid (PlayI w b bw n w5 (.slice none 0 0) [] []) := PlayI.q hr4 hv4 sp4 gw4 q5 (fun i hi => .inl hi) hu5
              clear q4 hr4 hv4 sp4 gw4 q5 hu5 hw4 c0 c1' fz0 fz1 f1
              go_wp2
              go_meet
              exact ⟨_, _, HE⟩
            · have h11b : (y % 11 == 0) = false := by rw [beq_eq_false_iff_ne]; exact h11
              obtain ⟨E, hE⟩ : ∃ E, E = putE n zs.length := ⟨_, rfl⟩
              have hle := HC.out.1.le
              have hrp := fun u (g : Grow wr u) => rput_any u s n (.slice av lv cv) zs y (HC.out.2.1.grow g) hle.1 hle.2
              have hip := fun u p' (h : QAt (Value.int .i64) 0 p' u b n zs) => iput_any u p' b n zs h y
              rw [← hE] at hrp
              rw [← hE] at hip
              clear hE hle
              go_upto_region 18 with fail
              go_cut [15, 16] from 35 to 150 (fun nv ev wx => ∃ (b15 : Nat) (a2 : Option Addr) (l2 c2 : Nat), nv = .pointer (some ⟨b15, 0, none⟩) ∧ ev = .int .i64 E ∧ Hid (VarAt wx b15 [.int .i64 n, .slice a2 l2 c2] ∧ RdV (Value.int .i64) 0 (fun i => s i ∨ wr.heap.size ≤ i) wx (.slice a2 l2 c2) (putL n zs y) ∧ Grow wr wx))
              case first =>
                have gd : Grow wr wr.drew := (Grow.refl wr).drew
                have kx : ∀ w', UpdS (fun i => wr.heap.size ≤ i) wr.drew w' → (w'.cell? ⟨bw, 0, none⟩ = some (.int .i64 n) ∧ w'.cell? ⟨bw, 1, none⟩ = some (.slice av lv cv)) ∧ w'.cell? ⟨g, o + j, none⟩ = some (.int .i64 y) := fun w' hu => by
                  have hbw := HC.out.2.2.1.lt
                  refine ⟨((HC.out.2.2.1.grow gd).upd hu (by omega)).two.1, ?_⟩
                  have hgl := World.block_lt_of_cell? _ _ f1
                  rw [hu.cell (p := ⟨g, o + j, none⟩) hgl (by simp only at hgl ⊢; omega)]
                  exact f1
                refine wp_region_treeG (UpdS (fun i => wr.heap.size ≤ i)) (UpdS.refl _) (fun _ _ _ => UpdS.trans) (by kernel_rfl) (.read 0 (.read 1 (.read 2 (.read 3 (.read 4 (.fork 5 (.read 6 (.read 7 (.read 8 (.act 9 (.act 10 (.read 11 .done)))))) 9 (.act 5 (.read 6 (.read 7 (.read 8 (.act 10 (.read 11 .done)))))))))))) (by kernel_rfl) (by kernel_rfl) rfl (fun _ _ d _ _ h => by cases d <;> exact h) ?_
                simp only [Tr.over, List.getElem?_toArray, List.getElem?_cons_zero, List.getElem?_cons_succ]
                repeat (first
                  | (refine wpT_move rfl ?_; simp only [Act.eval, Act.put, Array.getD_eq_getD_getElem?, List.getElem?_toArray, List.getElem?_cons_zero, List.getElem?_cons_succ, Option.getD_some, List.setIfInBounds_toArray, List.set_cons_zero, List.set_cons_succ])
                  | (refine wpT_assign rfl ?_; simp only [Act.eval, Act.put, Array.getD_eq_getD_getElem?, List.getElem?_toArray, List.getElem?_cons_zero, List.getElem?_cons_succ, Option.getD_some, List.setIfInBounds_toArray, List.set_cons_zero, List.set_cons_succ])
                  | (refine wpT_read (v := ?_) rfl ?_ ?_; rotate_left; (focus (intro w' hG; obtain ⟨⟨k0, k1⟩, k2⟩ := kx w' hG; go_simp; try (with_reducible rfl))); simp only [Act.put, List.setIfInBounds_toArray, List.set_cons_zero, List.set_cons_succ])
                  | (refine wpT_skip rfl ?_; simp only [Act.put, List.setIfInBounds_toArray, List.set_cons_zero, List.set_cons_succ]))
                refine wpT_fork ?_ ?_
                · skip
                  refine wpT_call (f := ?_) (args := ?_) (by rfl) ?_ ?_
                  rotate_left 2; focus (go_simp; constructor <;> with_reducible rfl)
                  refine (hrp wr.drew gd).mono ?_
                  rintro e w7 ⟨v7, rfl, hr7, g7⟩
                  refine ⟨_, rfl, g7.s, ?_⟩
                  obtain ⟨a2, c2, hv7⟩ := hr7.shape
                  generalize (putL n zs y).length = l2 at hv7
                  subst hv7
                  simp only [Act.put, List.setIfInBounds_toArray, List.set_cons_zero, List.set_cons_succ]
                  repeat (first
                    | (refine wpT_move rfl ?_; simp only [Act.eval, Act.put, Array.getD_eq_getD_getElem?, List.getElem?_toArray, List.getElem?_cons_zero, List.getElem?_cons_succ, Option.getD_some, List.setIfInBounds_toArray, List.set_cons_zero, List.set_cons_succ])
                    | (refine wpT_assign rfl ?_; simp only [Act.eval, Act.put, Array.getD_eq_getD_getElem?, List.getElem?_toArray, List.getElem?_cons_zero, List.getElem?_cons_succ, Option.getD_some, List.setIfInBounds_toArray, List.set_cons_zero, List.set_cons_succ])
                    | (refine wpT_read (v := ?_) rfl ?_ ?_; rotate_left; (focus (intro w' hG; skip; go_simp; try (with_reducible rfl))); simp only [Act.put, List.setIfInBounds_toArray, List.set_cons_zero, List.set_cons_succ])
                    | (refine wpT_skip rfl ?_; simp only [Act.put, List.setIfInBounds_toArray, List.set_cons_zero, List.set_cons_succ]))
                  refine wpT_act (by rfl) (exec_allocQ #[.int .i64 0, .slice none 0 0] zeroQq) (Grow.s ((Grow.refl _).alloc _)) ?_
                  simp only [Act.put, List.setIfInBounds_toArray, List.set_cons_zero, List.set_cons_succ]
                  have V7 := VarAt.new w7 [.int .i64 0, .slice none 0 0] 29
                  obtain ⟨⟨v0, v1⟩, v3, v4⟩ := V7.two
                  have hs7 : wr.heap.size ≤ w7.heap.size := g7.size
                  have V8 : Hid (VarAt (((w7.alloc (.cells #[.int .i64 0, .slice none 0 0] 29)).setCell ⟨w7.heap.size, 0, none⟩ (.int .i64 n)).setCell ⟨w7.heap.size, 1, none⟩ (.slice a2 l2 c2)) w7.heap.size [.int .i64 n, .slice a2 l2 c2] ∧ RdV (Value.int .i64) 0 (fun i => s i ∨ wr.heap.size ≤ i) (((w7.alloc (.cells #[.int .i64 0, .slice none 0 0] 29)).setCell ⟨w7.heap.size, 0, none⟩ (.int .i64 n)).setCell ⟨w7.heap.size, 1, none⟩ (.slice a2 l2 c2)) (.slice a2 l2 c2) (putL n zs y) ∧ Grow wr (((w7.alloc (.cells #[.int .i64 0, .slice none 0 0] 29)).setCell ⟨w7.heap.size, 0, none⟩ (.int .i64 n)).setCell ⟨w7.heap.size, 1, none⟩ (.slice a2 l2 c2))) := by
                    have ga : Grow w7 (w7.alloc (.cells #[.int .i64 0, .slice none 0 0] 29)) := (Grow.refl w7).alloc _
                    have hu := upd_pair (w7.alloc (.cells #[.int .i64 0, .slice none 0 0] 29)) w7.heap.size (.int .i64 n) (.slice a2 l2 c2)
                    refine ⟨V7.set2 _ _, ((((hr7.mono (q := fun i => (s i ∨ wr.heap.size ≤ i) ∧ i < w7.heap.size) (fun i hl h => ⟨h, hl⟩)).grow ga).upd hu (fun i _ hi => by omega)).mono (fun i _ hi => hi.1)), UpdS.new ((gd.trans g7).trans ga) hu (fun i hi => by omega)⟩
                  refine wpT_store (w' := ((w7.alloc (.cells #[.int .i64 0, .slice none 0 0] 29)).setCell ⟨w7.heap.size, 0, none⟩ (.int .i64 n)).setCell ⟨w7.heap.size, 1, none⟩ (.slice a2 l2 c2)) (by rfl) ?_ ?_ ?_
                  · go_simp
                  · exact (upd_pair _ w7.heap.size _ _).mono (fun i hi => by omega)
                  simp only [Act.put, List.setIfInBounds_toArray, List.set_cons_zero, List.set_cons_succ]
                  generalize ((w7.alloc (.cells #[.int .i64 0, .slice none 0 0] 29)).setCell ⟨w7.heap.size, 0, none⟩ (.int .i64 n)).setCell ⟨w7.heap.size, 1, none⟩ (.slice a2 l2 c2) = w8 at V8 ⊢
                  repeat (first
                    | (refine wpT_move rfl ?_; simp only [Act.eval, Act.put, Array.getD_eq_getD_getElem?, List.getElem?_toArray, List.getElem?_cons_zero, List.getElem?_cons_succ, Option.getD_some, List.setIfInBounds_toArray, List.set_cons_zero, List.set_cons_succ])
                    | (refine wpT_assign rfl ?_; simp only [Act.eval, Act.put, Array.getD_eq_getD_getElem?, List.getElem?_toArray, List.getElem?_cons_zero, List.getElem?_cons_succ, Option.getD_some, List.setIfInBounds_toArray, List.set_cons_zero, List.set_cons_succ])
                    | (refine wpT_read (v := ?_) rfl ?_ ?_; rotate_left; (focus (intro w' hG; skip; go_simp; try (with_reducible rfl))); simp only [Act.put, List.setIfInBounds_toArray, List.set_cons_zero, List.set_cons_succ])
                    | (refine wpT_skip rfl ?_; simp only [Act.put, List.setIfInBounds_toArray, List.set_cons_zero, List.set_cons_succ]))
                  refine wpT_done ?_
                  go_wp2_with fail
                  go_meet
                  exact ⟨w7.heap.size, a2, l2, c2, rfl, rfl, V8⟩
                · skip
                  refine wpT_act (by rfl) (exec_allocQ #[.int .i64 0, .slice none 0 0] zeroQq) (Grow.s ((Grow.refl _).alloc _)) ?_
                  simp only [Act.put, List.setIfInBounds_toArray, List.set_cons_zero, List.set_cons_succ]
                  have V7 := VarAt.new wr.drew [.int .i64 0, .slice none 0 0] 29
                  have HW : Hid (VarAt (wr.drew.alloc (.cells #[.int .i64 0, .slice none 0 0] 29)) wr.heap.size [.int .i64 0, .slice none 0 0] ∧ Grow wr (wr.drew.alloc (.cells #[.int .i64 0, .slice none 0 0] 29))) := ⟨V7, (Grow.refl wr).drew.alloc _⟩
                  clear V7
                  generalize wr.drew.alloc (.cells #[.int .i64 0, .slice none 0 0] 29) = w7 at HW ⊢
                  refine wpT_call (f := ?_) (args := ?_) (by rfl) ?_ ?_
                  rotate_left 2; focus (go_simp; constructor <;> with_reducible rfl)
                  refine (hrp w7 HW.out.2).mono ?_
                  rintro e w8 ⟨v8, rfl, hr8, g8⟩
                  refine ⟨_, rfl, g8.s, ?_⟩
                  obtain ⟨a2, c2, hv8⟩ := hr8.shape
                  generalize (putL n zs y).length = l2 at hv8
                  subst hv8
                  simp only [Act.put, List.setIfInBounds_toArray, List.set_cons_zero, List.set_cons_succ]
                  repeat (first
                    | (refine wpT_move rfl ?_; simp only [Act.eval, Act.put, Array.getD_eq_getD_getElem?, List.getElem?_toArray, List.getElem?_cons_zero, List.getElem?_cons_succ, Option.getD_some, List.setIfInBounds_toArray, List.set_cons_zero, List.set_cons_succ])
                    | (refine wpT_assign rfl ?_; simp only [Act.eval, Act.put, Array.getD_eq_getD_getElem?, List.getElem?_toArray, List.getElem?_cons_zero, List.getElem?_cons_succ, Option.getD_some, List.setIfInBounds_toArray, List.set_cons_zero, List.set_cons_succ])
                    | (refine wpT_read (v := ?_) rfl ?_ ?_; rotate_left; (focus (intro w' hG; skip; go_simp; try (with_reducible rfl))); simp only [Act.put, List.setIfInBounds_toArray, List.set_cons_zero, List.set_cons_succ])
                    | (refine wpT_skip rfl ?_; simp only [Act.put, List.setIfInBounds_toArray, List.set_cons_zero, List.set_cons_succ]))
                  have V7 := HW.out.1.grow g8
                  obtain ⟨⟨v0, v1⟩, v3, v4⟩ := V7.two
                  have hs7 : wr.heap.size < w7.heap.size := HW.out.1.lt
                  have V8 : Hid (VarAt ((w8.setCell ⟨wr.heap.size, 0, none⟩ (.int .i64 n)).setCell ⟨wr.heap.size, 1, none⟩ (.slice a2 l2 c2)) wr.heap.size [.int .i64 n, .slice a2 l2 c2] ∧ RdV (Value.int .i64) 0 (fun i => s i ∨ wr.heap.size ≤ i) ((w8.setCell ⟨wr.heap.size, 0, none⟩ (.int .i64 n)).setCell ⟨wr.heap.size, 1, none⟩ (.slice a2 l2 c2)) (.slice a2 l2 c2) (putL n zs y) ∧ Grow wr ((w8.setCell ⟨wr.heap.size, 0, none⟩ (.int .i64 n)).setCell ⟨wr.heap.size, 1, none⟩ (.slice a2 l2 c2))) := by
                    have hu := upd_pair w8 wr.heap.size (.int .i64 n) (.slice a2 l2 c2)
                    have hsl : ∀ i, s i → i < wr.heap.size := fun i hi => (HC.out.2.2.2.1.1 i (.inr (.inl hi))).2
                    refine ⟨V7.set2 _ _, (hr8.upd hu (fun i _ hi => hi.elim (fun h => by have := hsl i h; omega) (fun h => by omega))).mono (fun i _ hi => hi.imp id (fun h => by omega)), UpdS.new (HW.out.2.trans g8) hu (fun i hi => by omega)⟩
                  refine wpT_store (w' := (w8.setCell ⟨wr.heap.size, 0, none⟩ (.int .i64 n)).setCell ⟨wr.heap.size, 1, none⟩ (.slice a2 l2 c2)) (by rfl) ?_ ?_ ?_
                  · go_simp
                  · exact (upd_pair _ wr.heap.size _ _).mono (fun i hi => by omega)
                  simp only [Act.put, List.setIfInBounds_toArray, List.set_cons_zero, List.set_cons_succ]
                  generalize (w8.setCell ⟨wr.heap.size, 0, none⟩ (.int .i64 n)).setCell ⟨wr.heap.size, 1, none⟩ (.slice a2 l2 c2) = w9 at V8 ⊢
                  repeat (first
                    | (refine wpT_move rfl ?_; simp only [Act.eval, Act.put, Array.getD_eq_getD_getElem?, List.getElem?_toArray, List.getElem?_cons_zero, List.getElem?_cons_succ, Option.getD_some, List.setIfInBounds_toArray, List.set_cons_zero, List.set_cons_succ])
                    | (refine wpT_assign rfl ?_; simp only [Act.eval, Act.put, Array.getD_eq_getD_getElem?, List.getElem?_toArray, List.getElem?_cons_zero, List.getElem?_cons_succ, Option.getD_some, List.setIfInBounds_toArray, List.set_cons_zero, List.set_cons_succ])
                    | (refine wpT_read (v := ?_) rfl ?_ ?_; rotate_left; (focus (intro w' hG; skip; go_simp; try (with_reducible rfl))); simp only [Act.put, List.setIfInBounds_toArray, List.set_cons_zero, List.set_cons_succ])
                    | (refine wpT_skip rfl ?_; simp only [Act.put, List.setIfInBounds_toArray, List.set_cons_zero, List.set_cons_succ]))
                  refine wpT_done ?_
                  go_wp2_with fail
                  go_meet
                  exact ⟨wr.heap.size, a2, l2, c2, rfl, rfl, V8⟩
              case rest =>
                obtain ⟨b15, a2, l2, c2, rfl, rfl, C⟩ := hcut
                obtain ⟨w3, rfl⟩ : ∃ w3, w3 = wc := ⟨_, rfl⟩
                have HD : Hid (PlayI w b bw n ((w3.setCell ⟨bw, 0, none⟩ (.int .i64 n)).setCell ⟨bw, 1, none⟩ (.slice a2 l2 c2)) (.slice a2 l2 c2) zs (putL n zs y)) :=
                  PlayI.d HC.out.1 HC.out.2.2.1 HC.out.2.2.2.1 HC.out.2.2.2.2 C.out.2.2 C.out.2.1
                obtain ⟨⟨x0, x1⟩, -⟩ := C.out.1.two
                have hvb := HC.out.2.2.1.grow C.out.2.2
                obtain ⟨⟨y0, y1⟩, fy0, fy1⟩ := hvb.two
                clear hvb c0 c1' fz0 fz1 f1 hrp
                obtain ⟨w4, hw4⟩ : ∃ w4, ((w3.setCell ⟨bw, 0, none⟩ (.int .i64 n)).setCell ⟨bw, 1, none⟩ (.slice a2 l2 c2)) = w4 := ⟨_, rfl⟩
                rw [hw4] at HD
                obtain ⟨p4, s4, q4, hr4, hv4, sp4, gw4⟩ := HD.out
                have f4 := HX.out w4 gw4
                have hip4 := hip w4 p4 q4
                have H4 : Hid (RdV (Value.int .i64) 0 s4 w4 (.slice a2 l2 c2) (putL n zs y) ∧ VarAt w4 bw [.int .i64 n, .slice a2 l2 c2] ∧ Sep w.heap.size w4.heap.size b p4 s4 (fun i => i = bw) ∧ Grow w w4) := ⟨hr4, hv4, sp4, gw4⟩
                clear q4 hr4 hv4 sp4 gw4 hip
                go_wp2_with fail
                refine hip4.mono ?_
                rintro e w5 ⟨rfl, p5, q5, hp5, hu5⟩
                have HE : Hid (PlayI w b bw n w5 (.slice a2 l2 c2) (putL n zs y) (putL n zs y)) := PlayI.q H4.out.1 H4.out.2.1 H4.out.2.2.1 H4.out.2.2.2 q5 hp5 hu5
                clear q5 hp5 hu5 x0 x1 y0 y1 fy0 fy1 hip4 hw4 f4 H4
                go_wp2
                go_meet
                exact ⟨_, _, HE⟩
        case rest =>
          clear c0 c1' fz0 fz1 f1 HX HC HI
          obtain ⟨v2, zs2, HI6⟩ := hcut
          obtain ⟨W6, rfl⟩ : ∃ W6, W6 = wc := ⟨_, rfl⟩
          obtain ⟨p2, s2, q, hr, hv, sp, gw⟩ := HI6.out
          have hfi := ifirst_any W6 p2 b n zs2 q
          obtain ⟨a4, c4, hv2⟩ := hr.shape
          subst hv2
          have hzlm := hr.len
          unfold maxLen at hzlm
          obtain ⟨⟨c0, c1'⟩, fz0, fz1⟩ := hv.two
          by_cases hz : 0 < zs2.length
          · skip
            obtain ⟨g4, o4, e4, -, hc4⟩ := hr.addr hz
            have k4 := hc4 0 hz
            rw [Nat.add_zero] at k4
            have hd : decide (0 < zs2.length) = true := decide_eq_true hz
            rw [hd] at hfi
            generalize zs2.getD 0 0 = z4 at hfi k4
            subst e4
            have hzi : 0 < (zs2.length : Int) := by omega
            clear hc4 hd
            have HR : Hid (QAt (Value.int .i64) 0 p2 W6 b n zs2 ∧ RdV (Value.int .i64) 0 s2 W6 (.slice (some ⟨g4, o4, none⟩) zs2.length c4) zs2 ∧ VarAt W6 bw [.int .i64 n, .slice (some ⟨g4, o4, none⟩) zs2.length c4] ∧ Grow w W6) := ⟨q, hr, hv, gw⟩
            have HI2 : Hid (PlayI w b bw n W6 (.slice (some ⟨g4, o4, none⟩) zs2.length c4) zs2 zs2) := HI6.out
            obtain ⟨B, hB⟩ : ∃ B, B = decide (zs2.length = n) := ⟨_, rfl⟩
            have hBi : ((zs2.length : Int) == (n : Int)) = B := by rw [hB]; by_cases h : zs2.length = n <;> simp [h]; omega
            have kx : ∀ w', Grow W6.drew w' → w'.cell? ⟨bw, 0, none⟩ = some (.int .i64 n) ∧ w'.cell? ⟨bw, 1, none⟩ = some (.slice (some ⟨g4, o4, none⟩) zs2.length c4) := fun w' h => (HR.out.2.2.1.grow ((Grow.refl W6).drew.trans h)).two.1
            have hal := iall_any W6.drew p2 b n zs2 (HR.out.1.grow (Grow.refl W6).drew)
            have hle := fun u (h : Grow W6 u) => ilen_any u p2 b n zs2 (HR.out.1.grow h)
            have hfu := fun u (h : Grow W6 u) => ifull_any u p2 b n zs2 (HR.out.1.grow h)
            rw [← hB] at hfu
            clear q hr hv gw hB HI6 sp
            go_wp2_with fail
            refine hfi.mono ?_
            rintro e w7 ⟨rfl, rfl⟩
            clear hfi
            go_wp2
            refine wp_region_sched (by kernel_rfl) [(0, false), (2, false), (3, false), (1, true), (4, true), (5, false), (6, false), (7, false), (9, false), (10, false), (11, false), (8, true), (12, false), (13, false), (14, false), (15, false), (17, false), (18, false), (19, false), (20, false), (21, false), (16, true), (22, false), (23, false)] (by kernel_rfl) (by kernel_rfl) rfl (fun _ _ d _ _ h => by cases d <;> exact h) ?_
            simp only [inOrder, List.filterMap_cons, List.filterMap_nil, List.getElem?_toArray, List.getElem?_cons_zero, List.getElem?_cons_succ, Option.map_some]
            repeat (first
              | (refine wpS_move rfl ?_; simp only [Act.eval, Act.put, Array.getD_eq_getD_getElem?, List.getElem?_toArray, List.getElem?_cons_zero, List.getElem?_cons_succ, Option.getD_some, List.setIfInBounds_toArray, List.set_cons_zero, List.set_cons_succ])
              | (refine wpS_assign rfl ?_; simp only [Act.eval, Act.put, Array.getD_eq_getD_getElem?, List.getElem?_toArray, List.getElem?_cons_zero, List.getElem?_cons_succ, Option.getD_some, List.setIfInBounds_toArray, List.set_cons_zero, List.set_cons_succ])
              | (refine wpS_read (v := ?_) rfl ?_ ?_; rotate_left; (focus (intro w' hG; obtain ⟨k0, k1⟩ := kx w' hG; go_simp; try (with_reducible rfl))); simp only [Act.put, List.setIfInBounds_toArray, List.set_cons_zero, List.set_cons_succ])
              | (refine wpS_skip rfl ?_; simp only [Act.put, List.setIfInBounds_toArray, List.set_cons_zero, List.set_cons_succ]))
            refine wpS_call (f := ?_) (args := ?_) (by rfl) ?_ ?_
            rotate_left 2; focus (go_simp; constructor <;> with_reducible rfl)
            refine (hal).mono ?_
            rintro e w3 ⟨v3, rfl, ho3, g3⟩
            refine ⟨_, rfl, g3, ?_⟩
            simp only [Act.put, List.setIfInBounds_toArray, List.set_cons_zero, List.set_cons_succ]
            have hsm := samez_any v3 (.slice (some ⟨g4, o4, none⟩) zs2.length c4) zs2 zs2 _ _ w3 ho3.rd (HR.out.2.1.grow ((Grow.refl W6).drew.trans g3))
            simp only [decide_true] at hsm
            have HG3 : Hid (Grow W6.drew w3) := g3
            clear ho3 g3 hal
            repeat (first
              | (refine wpS_move rfl ?_; simp only [Act.eval, Act.put, Array.getD_eq_getD_getElem?, List.getElem?_toArray, List.getElem?_cons_zero, List.getElem?_cons_succ, Option.getD_some, List.setIfInBounds_toArray, List.set_cons_zero, List.set_cons_succ])
              | (refine wpS_assign rfl ?_; simp only [Act.eval, Act.put, Array.getD_eq_getD_getElem?, List.getElem?_toArray, List.getElem?_cons_zero, List.getElem?_cons_succ, Option.getD_some, List.setIfInBounds_toArray, List.set_cons_zero, List.set_cons_succ])
              | (refine wpS_read (v := ?_) rfl ?_ ?_; rotate_left; (focus (intro w' hG; skip; go_simp; try (with_reducible rfl))); simp only [Act.put, List.setIfInBounds_toArray, List.set_cons_zero, List.set_cons_succ])
              | (refine wpS_skip rfl ?_; simp only [Act.put, List.setIfInBounds_toArray, List.set_cons_zero, List.set_cons_succ]))
            refine wpS_call (f := ?_) (args := ?_) (by rfl) ?_ ?_
            rotate_left 2; focus (go_simp; constructor <;> with_reducible rfl)
            refine (hsm).mono ?_
            rintro e w4 ⟨rfl, g4'⟩
            refine ⟨_, rfl, g4', ?_⟩
            simp only [Act.put, List.setIfInBounds_toArray, List.set_cons_zero, List.set_cons_succ]
            have HG4 : Hid (Grow W6.drew w4) := HG3.out.trans g4'
            clear g4' hsm
            repeat (first
              | (refine wpS_move rfl ?_; simp only [Act.eval, Act.put, Array.getD_eq_getD_getElem?, List.getElem?_toArray, List.getElem?_cons_zero, List.getElem?_cons_succ, Option.getD_some, List.setIfInBounds_toArray, List.set_cons_zero, List.set_cons_succ])
              | (refine wpS_assign rfl ?_; simp only [Act.eval, Act.put, Array.getD_eq_getD_getElem?, List.getElem?_toArray, List.getElem?_cons_zero, List.getElem?_cons_succ, Option.getD_some, List.setIfInBounds_toArray, List.set_cons_zero, List.set_cons_succ])
              | (refine wpS_read (v := ?_) rfl ?_ ?_; rotate_left; (focus (intro w' hG; obtain ⟨k0, k1⟩ := kx w' (HG4.out.trans hG); go_simp; try (with_reducible rfl))); simp only [Act.put, List.setIfInBounds_toArray, List.set_cons_zero, List.set_cons_succ])
              | (refine wpS_skip rfl ?_; simp only [Act.put, List.setIfInBounds_toArray, List.set_cons_zero, List.set_cons_succ]))
            refine wpS_call (f := ?_) (args := ?_) (by rfl) ?_ ?_
            rotate_left 2; focus (go_simp; constructor <;> with_reducible rfl)
            refine (hle w4 ((Grow.refl W6).drew.trans HG4.out)).mono ?_
            rintro e w5 ⟨rfl, rfl⟩
            refine ⟨_, rfl, Grow.refl _, ?_⟩
            simp only [Act.put, List.setIfInBounds_toArray, List.set_cons_zero, List.set_cons_succ]
            repeat (first
              | (refine wpS_move rfl ?_; simp only [Act.eval, Act.put, Array.getD_eq_getD_getElem?, List.getElem?_toArray, List.getElem?_cons_zero, List.getElem?_cons_succ, Option.getD_some, List.setIfInBounds_toArray, List.set_cons_zero, List.set_cons_succ])
              | (refine wpS_assign rfl ?_; simp only [Act.eval, Act.put, Array.getD_eq_getD_getElem?, List.getElem?_toArray, List.getElem?_cons_zero, List.getElem?_cons_succ, Option.getD_some, List.setIfInBounds_toArray, List.set_cons_zero, List.set_cons_succ])
              | (refine wpS_read (v := ?_) rfl ?_ ?_; rotate_left; (focus (intro w' hG; obtain ⟨k0, k1⟩ := kx w' (HG4.out.trans hG); go_simp; try (with_reducible rfl))); simp only [Act.put, List.setIfInBounds_toArray, List.set_cons_zero, List.set_cons_succ])
              | (refine wpS_skip rfl ?_; simp only [Act.put, List.setIfInBounds_toArray, List.set_cons_zero, List.set_cons_succ]))
            refine wpS_call (f := ?_) (args := ?_) (by rfl) ?_ ?_
            rotate_left 2; focus (go_simp; constructor <;> with_reducible rfl)
            refine (hfu w4 ((Grow.refl W6).drew.trans HG4.out)).mono ?_
            rintro e w5 ⟨rfl, g5⟩
            refine ⟨_, rfl, g5, ?_⟩
            simp only [Act.put, List.setIfInBounds_toArray, List.set_cons_zero, List.set_cons_succ]
            have HI5 : Hid (PlayI w b bw n w5 (.slice (some ⟨g4, o4, none⟩) zs2.length c4) zs2 zs2) := HI2.out.up (((Grow.refl W6).drew.trans HG4.out).trans g5)
            clear g5 hle hfu HI2
            repeat (first
              | (refine wpS_move rfl ?_; simp only [Act.eval, Act.put, Array.getD_eq_getD_getElem?, List.getElem?_toArray, List.getElem?_cons_zero, List.getElem?_cons_succ, Option.getD_some, List.setIfInBounds_toArray, List.set_cons_zero, List.set_cons_succ])
              | (refine wpS_assign rfl ?_; simp only [Act.eval, Act.put, Array.getD_eq_getD_getElem?, List.getElem?_toArray, List.getElem?_cons_zero, List.getElem?_cons_succ, Option.getD_some, List.setIfInBounds_toArray, List.set_cons_zero, List.set_cons_succ])
              | (refine wpS_read (v := ?_) rfl ?_ ?_; rotate_left; (focus (intro w' hG; skip; go_simp; try (with_reducible rfl))); simp only [Act.put, List.setIfInBounds_toArray, List.set_cons_zero, List.set_cons_succ])
              | (refine wpS_skip rfl ?_; simp only [Act.put, List.setIfInBounds_toArray, List.set_cons_zero, List.set_cons_succ]))
            refine wpS_nil ?_
            clear kx c0 c1' fz0 fz1 HR
            go_wp2
            go_roundg (24 - (j + 1))
            case measure => have := HJ.out; omega
            case rel => exact ⟨j + 1, _, _, rfl, by have := HJ.out; omega, by go_num, HI5⟩
          · obtain rfl : zs2 = [] := List.eq_nil_of_length_eq_zero (by omega)
            simp only [List.length_nil, List.getD_nil, Nat.lt_irrefl, decide_false] at hfi hr hv c1'
            clear hz hzlm
            have HR : Hid (QAt (Value.int .i64) 0 p2 W6 b n [] ∧ RdV (Value.int .i64) 0 s2 W6 (.slice a4 0 c4) [] ∧ VarAt W6 bw [.int .i64 n, .slice a4 0 c4] ∧ Grow w W6) := ⟨q, hr, hv, gw⟩
            have HI2 : Hid (PlayI w b bw n W6 (.slice a4 0 c4) [] []) := HI6.out
            have hne : ¬ (0 : Int) = (n : Int) := by omega
            have hneb : ((0 : Int) == (n : Int)) = false := by rw [beq_eq_false_iff_ne]; exact hne
            have hdn : decide ((0 : Nat) = n) = false := decide_eq_false (by omega)
            have kx : ∀ w', Grow W6.drew w' → w'.cell? ⟨bw, 0, none⟩ = some (.int .i64 n) ∧ w'.cell? ⟨bw, 1, none⟩ = some (.slice a4 0 c4) := fun w' h => (HR.out.2.2.1.grow ((Grow.refl W6).drew.trans h)).two.1
            have hal := iall_any W6.drew p2 b n [] (HR.out.1.grow (Grow.refl W6).drew)
            have hle := fun u (h : Grow W6 u) => ilen_any u p2 b n [] (HR.out.1.grow h)
            have hfu := fun u (h : Grow W6 u) => ifull_any u p2 b n [] (HR.out.1.grow h)
            simp only [List.length_nil, hdn] at hfu hle
            clear q hr hv gw HI6 sp hdn
            go_wp2_with fail
            refine hfi.mono ?_
            rintro e w7 ⟨rfl, rfl⟩
            clear hfi
            go_wp2
            refine wp_region_sched (by kernel_rfl) [(0, false), (2, false), (3, false), (1, true), (4, true), (5, false), (6, false), (7, false), (9, false), (10, false), (11, false), (8, true), (12, false), (13, false), (14, false), (15, false), (17, false), (18, false), (19, false), (20, false), (21, false), (16, true), (22, false), (23, false)] (by kernel_rfl) (by kernel_rfl) rfl (fun _ _ d _ _ h => by cases d <;> exact h) ?_
            simp only [inOrder, List.filterMap_cons, List.filterMap_nil, List.getElem?_toArray, List.getElem?_cons_zero, List.getElem?_cons_succ, Option.map_some]
            repeat (first
              | (refine wpS_move rfl ?_; simp only [Act.eval, Act.put, Array.getD_eq_getD_getElem?, List.getElem?_toArray, List.getElem?_cons_zero, List.getElem?_cons_succ, Option.getD_some, List.setIfInBounds_toArray, List.set_cons_zero, List.set_cons_succ])
              | (refine wpS_assign rfl ?_; simp only [Act.eval, Act.put, Array.getD_eq_getD_getElem?, List.getElem?_toArray, List.getElem?_cons_zero, List.getElem?_cons_succ, Option.getD_some, List.setIfInBounds_toArray, List.set_cons_zero, List.set_cons_succ])
              | (refine wpS_read (v := ?_) rfl ?_ ?_; rotate_left; (focus (intro w' hG; obtain ⟨k0, k1⟩ := kx w' hG; go_simp; try (with_reducible rfl))); simp only [Act.put, List.setIfInBounds_toArray, List.set_cons_zero, List.set_cons_succ])
              | (refine wpS_skip rfl ?_; simp only [Act.put, List.setIfInBounds_toArray, List.set_cons_zero, List.set_cons_succ]))
            refine wpS_call (f := ?_) (args := ?_) (by rfl) ?_ ?_
            rotate_left 2; focus (go_simp; constructor <;> with_reducible rfl)
            refine (hal).mono ?_
            rintro e w3 ⟨v3, rfl, ho3, g3⟩
            refine ⟨_, rfl, g3, ?_⟩
            simp only [Act.put, List.setIfInBounds_toArray, List.set_cons_zero, List.set_cons_succ]
            have hsm := samez_any v3 (.slice a4 0 c4) [] [] _ _ w3 ho3.rd (HR.out.2.1.grow ((Grow.refl W6).drew.trans g3))
            simp only [decide_true] at hsm
            have HG3 : Hid (Grow W6.drew w3) := g3
            clear ho3 g3 hal
            repeat (first
              | (refine wpS_move rfl ?_; simp only [Act.eval, Act.put, Array.getD_eq_getD_getElem?, List.getElem?_toArray, List.getElem?_cons_zero, List.getElem?_cons_succ, Option.getD_some, List.setIfInBounds_toArray, List.set_cons_zero, List.set_cons_succ])
              | (refine wpS_assign rfl ?_; simp only [Act.eval, Act.put, Array.getD_eq_getD_getElem?, List.getElem?_toArray, List.getElem?_cons_zero, List.getElem?_cons_succ, Option.getD_some, List.setIfInBounds_toArray, List.set_cons_zero, List.set_cons_succ])
              | (refine wpS_read (v := ?_) rfl ?_ ?_; rotate_left; (focus (intro w' hG; skip; go_simp; try (with_reducible rfl))); simp only [Act.put, List.setIfInBounds_toArray, List.set_cons_zero, List.set_cons_succ])
              | (refine wpS_skip rfl ?_; simp only [Act.put, List.setIfInBounds_toArray, List.set_cons_zero, List.set_cons_succ]))
            refine wpS_call (f := ?_) (args := ?_) (by rfl) ?_ ?_
            rotate_left 2; focus (go_simp; constructor <;> with_reducible rfl)
            refine (hsm).mono ?_
            rintro e w4 ⟨rfl, g4'⟩
            refine ⟨_, rfl, g4', ?_⟩
            simp only [Act.put, List.setIfInBounds_toArray, List.set_cons_zero, List.set_cons_succ]
            have HG4 : Hid (Grow W6.drew w4) := HG3.out.trans g4'
            clear g4' hsm
            repeat (first
              | (refine wpS_move rfl ?_; simp only [Act.eval, Act.put, Array.getD_eq_getD_getElem?, List.getElem?_toArray, List.getElem?_cons_zero, List.getElem?_cons_succ, Option.getD_some, List.setIfInBounds_toArray, List.set_cons_zero, List.set_cons_succ])
              | (refine wpS_assign rfl ?_; simp only [Act.eval, Act.put, Array.getD_eq_getD_getElem?, List.getElem?_toArray, List.getElem?_cons_zero, List.getElem?_cons_succ, Option.getD_some, List.setIfInBounds_toArray, List.set_cons_zero, List.set_cons_succ])
              | (refine wpS_read (v := ?_) rfl ?_ ?_; rotate_left; (focus (intro w' hG; obtain ⟨k0, k1⟩ := kx w' (HG4.out.trans hG); go_simp; try (with_reducible rfl))); simp only [Act.put, List.setIfInBounds_toArray, List.set_cons_zero, List.set_cons_succ])
              | (refine wpS_skip rfl ?_; simp only [Act.put, List.setIfInBounds_toArray, List.set_cons_zero, List.set_cons_succ]))
            refine wpS_call (f := ?_) (args := ?_) (by rfl) ?_ ?_
            rotate_left 2; focus (go_simp; constructor <;> with_reducible rfl)
            refine (hle w4 ((Grow.refl W6).drew.trans HG4.out)).mono ?_
            rintro e w5 ⟨rfl, rfl⟩
            refine ⟨_, rfl, Grow.refl _, ?_⟩
            simp only [Act.put, List.setIfInBounds_toArray, List.set_cons_zero, List.set_cons_succ]
            repeat (first
              | (refine wpS_move rfl ?_; simp only [Act.eval, Act.put, Array.getD_eq_getD_getElem?, List.getElem?_toArray, List.getElem?_cons_zero, List.getElem?_cons_succ, Option.getD_some, List.setIfInBounds_toArray, List.set_cons_zero, List.set_cons_succ])
              | (refine wpS_assign rfl ?_; simp only [Act.eval, Act.put, Array.getD_eq_getD_getElem?, List.getElem?_toArray, List.getElem?_cons_zero, List.getElem?_cons_succ, Option.getD_some, List.setIfInBounds_toArray, List.set_cons_zero, List.set_cons_succ])
              | (refine wpS_read (v := ?_) rfl ?_ ?_; rotate_left; (focus (intro w' hG; obtain ⟨k0, k1⟩ := kx w' (HG4.out.trans hG); go_simp; try (with_reducible rfl))); simp only [Act.put, List.setIfInBounds_toArray, List.set_cons_zero, List.set_cons_succ])
              | (refine wpS_skip rfl ?_; simp only [Act.put, List.setIfInBounds_toArray, List.set_cons_zero, List.set_cons_succ]))
            refine wpS_call (f := ?_) (args := ?_) (by rfl) ?_ ?_
            rotate_left 2; focus (go_simp; constructor <;> with_reducible rfl)
            refine (hfu w4 ((Grow.refl W6).drew.trans HG4.out)).mono ?_
            rintro e w5 ⟨rfl, g5⟩
            refine ⟨_, rfl, g5, ?_⟩
            simp only [Act.put, List.setIfInBounds_toArray, List.set_cons_zero, List.set_cons_succ]
            have HI5 : Hid (PlayI w b bw n w5 (.slice a4 0 c4) [] []) := HI2.out.up (((Grow.refl W6).drew.trans HG4.out).trans g5)
            clear g5 hle hfu HI2
            repeat (first
              | (refine wpS_move rfl ?_; simp only [Act.eval, Act.put, Array.getD_eq_getD_getElem?, List.getElem?_toArray, List.getElem?_cons_zero, List.getElem?_cons_succ, Option.getD_some, List.setIfInBounds_toArray, List.set_cons_zero, List.set_cons_succ])
              | (refine wpS_assign rfl ?_; simp only [Act.eval, Act.put, Array.getD_eq_getD_getElem?, List.getElem?_toArray, List.getElem?_cons_zero, List.getElem?_cons_succ, Option.getD_some, List.setIfInBounds_toArray, List.set_cons_zero, List.set_cons_succ])
              | (refine wpS_read (v := ?_) rfl ?_ ?_; rotate_left; (focus (intro w' hG; skip; go_simp; try (with_reducible rfl))); simp only [Act.put, List.setIfInBounds_toArray, List.set_cons_zero, List.set_cons_succ])
              | (refine wpS_skip rfl ?_; simp only [Act.put, List.setIfInBounds_toArray, List.set_cons_zero, List.set_cons_succ]))
            refine wpS_nil ?_
            clear kx c0 c1' fz0 fz1 HR
            go_wp2
            go_roundg (24 - (j + 1))
            case measure => have := HJ.out; omega
            case rel => exact ⟨j + 1, _, _, rfl, by have := HJ.out; omega, by go_num, HI5⟩
      · have h24' : ¬ (j : Int) < 24 := by omega
        have HG : Hid (Grow w wr) := HI.out.grow
        clear HI hk
        go_wp2_with fail
        refine (lives_any wr).mono ?_
        rintro e w3 ⟨rfl, g3⟩
        go_wp2
        go_ret
        exact ⟨rfl, HG.out.trans g3⟩
    · have hlt' : ¬ (j : Int) < (ls.length : Int) := by omega
      have HG : Hid (Grow w wr) := HI.out.grow
      clear HI hk
      go_wp2_with fail
      refine (lives_any wr).mono ?_
      rintro e w3 ⟨rfl, g3⟩
      go_wp2
      go_ret
      exact ⟨rfl, HG.out.trans g3⟩
end Go.Proofs.Ytmnaadbemlecpaa
