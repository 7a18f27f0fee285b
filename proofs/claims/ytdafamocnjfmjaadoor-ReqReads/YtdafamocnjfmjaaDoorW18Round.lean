/-
  The walk of ReqRound. Conditions: the theorem's own.
-/
import Derived.Test.YtdafamocnjfmjaaDoorReqWr
import Derived.Test.YtdafamocnjfmjaaDoorReqRdP
import Derived.Test.YtdafamocnjfmjaaDoorReqSm
import Derived.Test.YtdafamocnjfmjaaDoorReqL
import Derived.Deep.CutRange
namespace Go.Proofs.YtdafamocnjfmjaaDoor
open Go.RowKit
set_option linter.unusedVariables false
set_option linter.unusedSimpArgs false

/-! ### a request's bytes, read -/
theorem val_le (k : Nat) (n : Int) (h0 : 0 ≤ n) (h1 : n < 256 ^ k) : val (le k n) = n := by
  induction k generalizing n with
  | zero => simp at h1; simp [le, val]; omega
  | succ k ih =>
    rw [Int.pow_succ] at h1
    rw [le, val, ih (n / 256) (by omega) (by omega)]
    omega
theorem byte_le (k : Nat) (n : Int) : Byte (le k n) := oct_le k n
theorem uval_leI (n : Int) (h : (Lit.int .i64 n).wf = true) (r : List Int) : wrap64 (uval (leI n ++ r)) = n ∧ urest (leI n ++ r) = r ∧ ∀ e, uerr (leI n ++ r) e = e := by
  have hb := bounds_i64 h
  have hl : ¬ (leI n ++ r).length < 8 := by rw [List.length_append, leI_length]; omega
  refine ⟨?_, ?_, fun e => if_neg hl⟩
  · unfold uval
    rw [if_neg hl, List.take_append_of_le_length (by rw [leI_length]; omega), List.take_of_length_le (by rw [leI_length]; omega)]
    unfold leI
    rw [val_le 8 _ (by omega) (by have h8 : (256 : Int) ^ 8 = 18446744073709551616 := (by decide); omega)]
    unfold wrap64
    omega
  · unfold urest
    rw [if_neg hl, List.drop_append_of_le_length (by rw [leI_length]; omega), List.drop_of_length_le (by rw [leI_length]; omega), List.nil_append]
theorem leAll_cons (n : Int) (l : List Int) : leAll (n :: l) = leI n ++ leAll l := by simp [leAll]
theorem rqB_byte (s g o p f l : Int) {z : List Int} (hz : Oct z) : Byte (rqB s g o p f l z) := by
  unfold rqB
  refine Oct.append (fun x hx => ?_) (Oct.append (oct_le _ _) hz)
  unfold leAll at hx
  obtain ⟨m, hm, hxm⟩ := List.mem_flatMap.1 hx
  exact oct_le _ _ x hxm
/-- what is laid is read as it was -/
theorem rqB_read (s g o p f l : Int) (z : List Int) (hs : (Lit.int .i64 s).wf = true) (hg : (Lit.int .i64 g).wf = true) (ho : (Lit.int .i64 o).wf = true) (hp : (Lit.int .i64 p).wf = true) (hf : (Lit.int .i64 f).wf = true) (hl : (Lit.int .i64 l).wf = true) (hz : z.length ≤ 32) :
    rdE (rqB s g o p f l z) = 0 ∧ rdN (rqB s g o p f l z) 0 = s ∧ rdN (rqB s g o p f l z) 1 = g ∧ rdN (rqB s g o p f l z) 2 = o ∧ rdN (rqB s g o p f l z) 3 = p ∧ rdN (rqB s g o p f l z) 4 = f ∧ rdN (rqB s g o p f l z) 5 = l ∧ rdZ (rqB s g o p f l z) = z := by
  have z0 : zk (rqB s g o p f l z) 0 = leI s ++ (leI g ++ (leI o ++ (leI p ++ (leI f ++ (leI l ++ (le 8 z.length ++ z)))))) := by
    show rqB s g o p f l z = _
    simp [rqB, leAll_cons, leAll]
  obtain ⟨a0, b0, -⟩ := uval_leI s hs (leI g ++ (leI o ++ (leI p ++ (leI f ++ (leI l ++ (le 8 z.length ++ z))))))
  have z1 : zk (rqB s g o p f l z) 1 = leI g ++ (leI o ++ (leI p ++ (leI f ++ (leI l ++ (le 8 z.length ++ z))))) := by show urest (zk (rqB s g o p f l z) 0) = _; rw [z0, b0]
  obtain ⟨a1, b1, -⟩ := uval_leI g hg (leI o ++ (leI p ++ (leI f ++ (leI l ++ (le 8 z.length ++ z)))))
  have z2 : zk (rqB s g o p f l z) 2 = leI o ++ (leI p ++ (leI f ++ (leI l ++ (le 8 z.length ++ z)))) := by show urest (zk (rqB s g o p f l z) 1) = _; rw [z1, b1]
  obtain ⟨a2, b2, -⟩ := uval_leI o ho (leI p ++ (leI f ++ (leI l ++ (le 8 z.length ++ z))))
  have z3 : zk (rqB s g o p f l z) 3 = leI p ++ (leI f ++ (leI l ++ (le 8 z.length ++ z))) := by show urest (zk (rqB s g o p f l z) 2) = _; rw [z2, b2]
  obtain ⟨a3, b3, -⟩ := uval_leI p hp (leI f ++ (leI l ++ (le 8 z.length ++ z)))
  have z4 : zk (rqB s g o p f l z) 4 = leI f ++ (leI l ++ (le 8 z.length ++ z)) := by show urest (zk (rqB s g o p f l z) 3) = _; rw [z3, b3]
  obtain ⟨a4, b4, -⟩ := uval_leI f hf (leI l ++ (le 8 z.length ++ z))
  have z5 : zk (rqB s g o p f l z) 5 = leI l ++ (le 8 z.length ++ z) := by show urest (zk (rqB s g o p f l z) 4) = _; rw [z4, b4]
  obtain ⟨a5, b5, -⟩ := uval_leI l hl (le 8 z.length ++ z)
  have z6 : zk (rqB s g o p f l z) 6 = le 8 z.length ++ z := by show urest (zk (rqB s g o p f l z) 5) = _; rw [z5, b5]
  have hv : val ((le 8 (z.length : Int) ++ z).take 8) = z.length := by
    rw [List.take_append_of_le_length (by rw [le_length]; omega), List.take_of_length_le (by rw [le_length]; omega)]
    exact val_le 8 _ (by omega) (by have h8 : (256 : Int) ^ 8 = 18446744073709551616 := (by decide); omega)
  have hd : (le 8 (z.length : Int) ++ z).drop 8 = z := by
    rw [List.drop_append_of_le_length (by rw [le_length]; omega), List.drop_of_length_le (by rw [le_length]; omega), List.nil_append]
  have hq : bq (zk (rqB s g o p f l z) 6) = (z, [], 0) := by
    rw [z6]
    unfold bq
    rw [if_neg (by rw [List.length_append, le_length]; omega), hv, hd, if_neg (by omega), Int.toNat_natCast, List.take_of_length_le (Nat.le_refl _), List.drop_of_length_le (Nat.le_refl _)]
  have hE : rdE (rqB s g o p f l z) = 0 := by unfold rdE; rw [hq]; rfl
  have hn : ∀ k, rdN (rqB s g o p f l z) k = wrap64 (uval (zk (rqB s g o p f l z) k)) := fun k => if_pos hE
  refine ⟨hE, ?_, ?_, ?_, ?_, ?_, ?_, ?_⟩
  · rw [hn, z0, a0]
  · rw [hn, z1, a1]
  · rw [hn, z2, a2]
  · rw [hn, z3, a3]
  · rw [hn, z4, a4]
  · rw [hn, z5, a5]
  · show (if rdE (rqB s g o p f l z) = 0 then (bq (zk (rqB s g o p f l z) 6)).1 else []) = z
    rw [if_pos hE, hq]

set_option maxRecDepth 16000 in
set_option maxHeartbeats 16000000 in
theorem reqRound_walk (s g : Int) (x : Rq) (a : Option Addr) (n c : Nat) (w : World) (hw : WT w) (hr : Rd .u8 w.heap.size w (.slice a n c) x.z) (hok : x.Ok maxLen) (hs : (Lit.int .i64 s).wf = true) (hg : (Lit.int .i64 g).wf = true) :
    Calls Tryd.prog 5 #[.agg #[.int .i64 s, .int .i64 g], .agg #[.int .i64 x.o, .int .i64 x.p, .int .i64 x.f, .int .i64 x.l, .slice a n c]] w fun e w' => e = .returned (.bool true) ∧ Grow w w' := by
  obtain ⟨k1, k2, k3, k4, k5, -⟩ := hok
  have H0 : Hid (VarAt ((w.alloc (.cells #[.int .i64 s, .int .i64 g] 37)).alloc (.cells #[.int .i64 x.o, .int .i64 x.p, .int .i64 x.f, .int .i64 x.l, .slice a n c] 24)) w.heap.size [.int .i64 s, .int .i64 g] ∧ VarAt ((w.alloc (.cells #[.int .i64 s, .int .i64 g] 37)).alloc (.cells #[.int .i64 x.o, .int .i64 x.p, .int .i64 x.f, .int .i64 x.l, .slice a n c] 24)) (w.heap.size + 1) [.int .i64 x.o, .int .i64 x.p, .int .i64 x.f, .int .i64 x.l, .slice a n c] ∧ Grow w ((w.alloc (.cells #[.int .i64 s, .int .i64 g] 37)).alloc (.cells #[.int .i64 x.o, .int .i64 x.p, .int .i64 x.f, .int .i64 x.l, .slice a n c] 24)) ∧ w.heap.size + 2 ≤ (World.heap ((w.alloc (.cells #[.int .i64 s, .int .i64 g] 37)).alloc (.cells #[.int .i64 x.o, .int .i64 x.p, .int .i64 x.f, .int .i64 x.l, .slice a n c] 24))).size) := ⟨(VarAt.new w _ _).old _, VarAt.new2 w _ _ _, ((Grow.refl w).alloc _).alloc _, by simp⟩
  have hfe := fewB_any (.slice a n c) x.z 32 32 _ _ rfl (hr.below H0.out.2.2.1) (by omega)
  have hzl : (x.z.take 32).length ≤ 32 := by rw [List.length_take]; omega
  have hzo : Oct (x.z.take 32) := k5.take 32
  generalize x.z.take 32 = z at *
  have HRD := hid (rqB_read s g x.o x.p x.f x.l z hs hg k1 k2 k3 k4 hzl)
  have HBY := hid (And.intro (rqB_byte s g x.o x.p x.f x.l hzo) (And.intro hzo (And.intro hzl (rqB_length s g x.o x.p x.f x.l z))))
  have HWT := hid hw
  clear hs hg k1 k2 k3 k4 k5 hzl hzo hw hr
  obtain ⟨o, p, f, l, z0⟩ := x
  dsimp only at *
  go_enter Tryd.func5, Tryd.ntmps5
  go_wp2_with fail
  refine hfe.mono ?_
  rintro e w1 ⟨v1, rfl, ho1, g1⟩
  obtain ⟨a1, c1, rfl⟩ := ho1.shape
  have H1 : Hid (VarAt w1 w.heap.size [.int .i64 s, .int .i64 g] ∧ VarAt w1 (w.heap.size + 1) [.int .i64 o, .int .i64 p, .int .i64 f, .int .i64 l, .slice a n c] ∧ Grow w w1 ∧ Own .u8 (w.heap.size + 2) w1 (.slice a1 z.length c1) z) := ⟨H0.out.1.grow g1, H0.out.2.1.grow g1, H0.out.2.2.1.trans g1, ho1.base H0.out.2.2.2⟩
  clear hfe ho1 g1 H0
  obtain ⟨⟨c0, c1', c2, c3, c4⟩, f0, f1, f2, f3, f4⟩ := H1.out.2.1.five
  go_upto_region 2 with fail
  have hu := upd_one w1 (w.heap.size + 1) 4 (.slice a1 z.length c1)
  refine wp_gen (fun u => VarAt u w.heap.size [.int .i64 s, .int .i64 g] ∧ VarAt u (w.heap.size + 1) [.int .i64 o, .int .i64 p, .int .i64 f, .int .i64 l, .slice a1 z.length c1] ∧ Grow w u ∧ Rd .u8 u.heap.size u (.slice a1 z.length c1) z) ⟨H1.out.1.upd hu (by omega), H1.out.2.1.set 4 _, UpdS.new H1.out.2.2.1 hu (fun i hi => by omega), (Own.upd H1.out.2.2.2 hu (fun i hi => by omega)).rd⟩ ?_
  intro w2 h2
  have H2 := hid h2
  clear h2 hu c0 c1' c2 c3 c4 f0 f1 f2 f3 f4 H1
  obtain ⟨⟨b0, b1⟩, -⟩ := H2.out.1.two
  obtain ⟨⟨c0, c1', c2, c3, c4⟩, -⟩ := H2.out.2.1.five
  have hwr := write_any w2 s g o p f l a1 z.length c1 z _ H2.out.2.2.2 (by have := HBY.out.2.2.1; omega)
  have HRQ : Hid (∀ u, Grow w2 u → Calls Tryd.prog 20 #[.agg #[.int .i64 s, .int .i64 g], .agg #[.int .i64 o, .int .i64 p, .int .i64 f, .int .i64 l, .slice a1 z.length c1]] u fun e w' => ∃ v, e = .returned v ∧ Own .u8 u.heap.size w' v (rqB s g o p f l z) ∧ Grow u w') := fun u gu => rreq_any u s g o p f l a1 z.length c1 z _ (H2.out.2.2.2.below gu) (by have := HBY.out.2.2.1; omega)
  have HRE : Hid (∀ u v B, Rd .u8 B u v (rqB s g o p f l z) → Calls Tryd.prog 19 #[v] u fun e w' => ∃ y, e = .returned (.tuple #[.agg #[.int .i64 s, .int .i64 g], .agg #[.int .i64 o, .int .i64 p, .int .i64 f, .int .i64 l, y], .int .i64 0]) ∧ Rd .u8 w'.heap.size w' y z ∧ Grow u w') := fun u v B h => by
    have h1 := readq_any u v _ B h HBY.out.1 (by rw [HBY.out.2.2.2]; have := HBY.out.2.2.1; omega)
    obtain ⟨q0, q1, q2, q3, q4, q5, q6, q7⟩ := HRD.out
    rw [q0, q1, q2, q3, q4, q5, q6, q7] at h1
    exact h1
  generalize rqB s g o p f l z = bs at *
  have HLV : Hid (∀ u, WT u → Calls Tryd.prog 14 #[] u fun e w' => e = .returned (.bool true) ∧ Grow u w') := fun u hu => lives_any u hu
  clear HRD
  go_wp2_with fail
  refine hwr.mono ?_
  rintro e w3 ⟨v3, rfl, ho3, g3⟩
  have H3 : Hid (VarAt w3 w.heap.size [.int .i64 s, .int .i64 g] ∧ VarAt w3 (w.heap.size + 1) [.int .i64 o, .int .i64 p, .int .i64 f, .int .i64 l, .slice a1 z.length c1] ∧ Grow w w3 ∧ Rd .u8 w3.heap.size w3 (.slice a1 z.length c1) z ∧ Rd .u8 w3.heap.size w3 v3 bs ∧ Grow w2 w3) := ⟨H2.out.1.grow g3, H2.out.2.1.grow g3, H2.out.2.2.1.trans g3, Rd.mono (H2.out.2.2.2.below g3) g3.size, ho3.rd, g3⟩
  clear hwr ho3 g3 H2 b0 b1 c0 c1' c2 c3 c4
  go_wp2_with fail
  refine (HRE.out _ _ _ H3.out.2.2.2.2.1).mono ?_
  rintro e w4 ⟨y, rfl, hy, g4⟩
  have H4 : Hid (VarAt w4 w.heap.size [.int .i64 s, .int .i64 g] ∧ VarAt w4 (w.heap.size + 1) [.int .i64 o, .int .i64 p, .int .i64 f, .int .i64 l, .slice a1 z.length c1] ∧ Grow w w4 ∧ Rd .u8 w4.heap.size w4 (.slice a1 z.length c1) z ∧ Rd .u8 w4.heap.size w4 v3 bs ∧ Grow w2 w4 ∧ Rd .u8 w4.heap.size w4 y z) := ⟨H3.out.1.grow g4, H3.out.2.1.grow g4, H3.out.2.2.1.trans g4, Rd.mono (H3.out.2.2.2.1.below g4) g4.size, Rd.mono (H3.out.2.2.2.2.1.below g4) g4.size, H3.out.2.2.2.2.2.trans g4, hy⟩
  obtain ⟨ay, cy, rfl, -⟩ := hy
  obtain ⟨a3, c3, rfl⟩ : ∃ a3 c3, v3 = .slice a3 bs.length c3 := by
    obtain ⟨q1, q2, q3, -⟩ := H3.out.2.2.2.2.1
    exact ⟨q1, q2, q3⟩
  clear g4 H3 HRE
  go_upto_region 4 with fail
  have g45 : ∀ o1 o2, Grow w4 ((World.alloc w4 o1).alloc o2) := fun o1 o2 => ((Grow.refl w4).alloc o1).alloc o2
  refine wp_gen (fun u => VarAt u w.heap.size [.int .i64 s, .int .i64 g] ∧ VarAt u (w.heap.size + 1) [.int .i64 o, .int .i64 p, .int .i64 f, .int .i64 l, .slice a1 z.length c1] ∧ VarAt u w4.heap.size [.int .i64 s, .int .i64 g] ∧ VarAt u (w4.heap.size + 1) [.int .i64 o, .int .i64 p, .int .i64 f, .int .i64 l, .slice ay z.length cy] ∧ Grow w u ∧ Rd .u8 u.heap.size u (.slice a1 z.length c1) z ∧ Rd .u8 u.heap.size u (.slice a3 bs.length c3) bs ∧ Rd .u8 u.heap.size u (.slice ay z.length cy) z ∧ Grow w2 u)
    ⟨H4.out.1.grow (g45 _ _), H4.out.2.1.grow (g45 _ _), (VarAt.new w4 _ _).old _, VarAt.new2 w4 _ _ _, H4.out.2.2.1.trans (g45 _ _), Rd.mono (H4.out.2.2.2.1.below (g45 _ _)) (g45 _ _).size, Rd.mono (H4.out.2.2.2.2.1.below (g45 _ _)) (g45 _ _).size, Rd.mono (H4.out.2.2.2.2.2.2.below (g45 _ _)) (g45 _ _).size, H4.out.2.2.2.2.2.1.trans (g45 _ _)⟩ ?_
  intro w5 h5
  have H5 := hid h5
  clear h5 g45 H4
  generalize w4.heap.size = g6 at *
  have KM3 : Hid (∀ u, (Grow w5 u ∨ Grow w5.drew u) → (convert 22 9 (.slice a3 bs.length c3)).run Tryd.prog u = .ok (.string (strOfNums bs)) u) := fun u h => (Rd.below H5.out.2.2.2.2.2.2.1 (h.elim (fun h => h) (fun h => (Grow.refl w5).drew.trans h))).string 22 9 5 Tryd.underlying22 Tryd.underlying5 Tryd.underlying9
  have KMY : Hid (∀ u v, Rd .u8 u.heap.size u v bs → (convert 22 9 v).run Tryd.prog u = .ok (.string (strOfNums bs)) u) := fun u v h => h.string 22 9 5 Tryd.underlying22 Tryd.underlying5 Tryd.underlying9
  have HSM : Hid (∀ u, Grow w5 u → Calls Tryd.prog 21 #[.agg #[.int .i64 o, .int .i64 p, .int .i64 f, .int .i64 l, .slice ay z.length cy], .agg #[.int .i64 o, .int .i64 p, .int .i64 f, .int .i64 l, .slice a1 z.length c1]] u fun e w' => e = .returned (.bool true) ∧ Grow u w') := fun u gu => by
    have h := rsame_any u o p f l o p f l ay a1 z.length z.length cy c1 z z _ _ (H5.out.2.2.2.2.2.2.2.1.below gu) (H5.out.2.2.2.2.2.1.below gu) HBY.out.2.1 HBY.out.2.1
    rw [smE_self] at h
    exact h
  have hE : ((strOfNums bs).toList == (strOfNums bs).toList) = true := by simp
  generalize strOfNums bs = S at *
  have GG : Hid (∀ u, Grow w5.drew u → Grow w5 u ∨ Grow w5.drew u) := fun u h => .inr h
  refine wp_region_sched (by kernel_rfl) [(0, false), (1, false), (2, false), (3, false), (4, true), (5, false), (6, false), (7, false), (8, false), (9, false), (10, false), (11, false), (12, false), (13, false), (14, false), (15, false), (16, false), (17, false), (18, false), (19, true), (20, false), (21, false), (22, true), (23, false), (24, false)] (by kernel_rfl) (by kernel_rfl) rfl (fun _ _ d _ _ h => by cases d <;> exact h) ?_
  simp only [inOrder, List.filterMap_cons, List.filterMap_nil, List.getElem?_toArray, List.getElem?_cons_zero, List.getElem?_cons_succ, Option.map_some]
  repeat (first
    | (refine wpS_move rfl ?_; simp only [Act.eval, Act.put, Array.getD_eq_getD_getElem?, List.getElem?_toArray, List.getElem?_cons_zero, List.getElem?_cons_succ, Option.getD_some, List.setIfInBounds_toArray, List.set_cons_zero, List.set_cons_succ])
    | (refine wpS_assign rfl ?_; simp only [Act.eval, Act.put, Array.getD_eq_getD_getElem?, List.getElem?_toArray, List.getElem?_cons_zero, List.getElem?_cons_succ, Option.getD_some, List.setIfInBounds_toArray, List.set_cons_zero, List.set_cons_succ])
    | (refine wpS_read (v := ?_) rfl ?_ ?_; rotate_left; (focus (intro w' hG; obtain ⟨b0, b1⟩ := late2 H5.out.1 (GG.out w' hG); obtain ⟨c0, c1, c2, c3, c4⟩ := late5 H5.out.2.1 (GG.out w' hG); obtain ⟨d0, d1⟩ := late2 H5.out.2.2.1 (GG.out w' hG); obtain ⟨e0, e1, e2, e3, e4⟩ := late5 H5.out.2.2.2.1 (GG.out w' hG); have q3 := KM3.out w' (GG.out w' hG); go_simp; try (with_reducible rfl))); simp only [Act.put, List.setIfInBounds_toArray, List.set_cons_zero, List.set_cons_succ])
    | (refine wpS_skip rfl ?_; simp only [Act.put, List.setIfInBounds_toArray, List.set_cons_zero, List.set_cons_succ]))
  have g5 : Grow w5 w5.drew := (Grow.refl _).drew
  refine wpS_call (f := ?_) (args := ?_) (by rfl) ?_ ?_
  rotate_left 2; focus (go_simp; constructor <;> with_reducible rfl)
  refine (HRQ.out _ (H5.out.2.2.2.2.2.2.2.2.trans g5)).mono ?_
  rintro e w6 ⟨v6, rfl, ho6, g6'⟩
  refine ⟨_, rfl, g6', ?_⟩
  simp only [Act.put, List.setIfInBounds_toArray, List.set_cons_zero, List.set_cons_succ]
  have G6 : Hid (Grow w5 w6) := g5.trans g6'
  clear GG
  have GG : Hid (∀ u, Grow w6 u → Grow w5 u ∨ Grow w5.drew u) := fun u h => .inl (G6.out.trans h)
  have KM6 : Hid (∀ u, Grow w6 u → (convert 22 9 v6).run Tryd.prog u = .ok (.string S) u) := fun u gu => KMY.out u v6 (Rd.mono (ho6.rd.below gu) gu.size)
  clear ho6 g6' g5 HRQ
  repeat (first
    | (refine wpS_move rfl ?_; simp only [Act.eval, Act.put, Array.getD_eq_getD_getElem?, List.getElem?_toArray, List.getElem?_cons_zero, List.getElem?_cons_succ, Option.getD_some, List.setIfInBounds_toArray, List.set_cons_zero, List.set_cons_succ])
    | (refine wpS_assign rfl ?_; simp only [Act.eval, Act.put, Array.getD_eq_getD_getElem?, List.getElem?_toArray, List.getElem?_cons_zero, List.getElem?_cons_succ, Option.getD_some, List.setIfInBounds_toArray, List.set_cons_zero, List.set_cons_succ])
    | (refine wpS_read (v := ?_) rfl ?_ ?_; rotate_left; (focus (intro w' hG; obtain ⟨b0, b1⟩ := late2 H5.out.1 (GG.out w' hG); obtain ⟨c0, c1, c2, c3, c4⟩ := late5 H5.out.2.1 (GG.out w' hG); obtain ⟨d0, d1⟩ := late2 H5.out.2.2.1 (GG.out w' hG); obtain ⟨e0, e1, e2, e3, e4⟩ := late5 H5.out.2.2.2.1 (GG.out w' hG); have q3 := KM3.out w' (GG.out w' hG); have q6 := KM6.out w' hG; go_simp; try (with_reducible rfl))); simp only [Act.put, List.setIfInBounds_toArray, List.set_cons_zero, List.set_cons_succ])
    | (refine wpS_skip rfl ?_; simp only [Act.put, List.setIfInBounds_toArray, List.set_cons_zero, List.set_cons_succ]))
  refine wpS_call (f := ?_) (args := ?_) (by rfl) ?_ ?_
  rotate_left 2; focus (go_simp; constructor <;> with_reducible rfl)
  refine (HSM.out _ G6.out).mono ?_
  rintro e w7 ⟨rfl, g7⟩
  refine ⟨_, rfl, g7, ?_⟩
  simp only [Act.put, List.setIfInBounds_toArray, List.set_cons_zero, List.set_cons_succ]
  have G7 : Hid (Grow w5 w7) := G6.out.trans g7
  clear GG g7
  have GG : Hid (∀ u, Grow w7 u → Grow w5 u ∨ Grow w5.drew u) := fun u h => .inl (G7.out.trans h)
  repeat (first
    | (refine wpS_move rfl ?_; simp only [Act.eval, Act.put, Array.getD_eq_getD_getElem?, List.getElem?_toArray, List.getElem?_cons_zero, List.getElem?_cons_succ, Option.getD_some, List.setIfInBounds_toArray, List.set_cons_zero, List.set_cons_succ])
    | (refine wpS_assign rfl ?_; simp only [Act.eval, Act.put, Array.getD_eq_getD_getElem?, List.getElem?_toArray, List.getElem?_cons_zero, List.getElem?_cons_succ, Option.getD_some, List.setIfInBounds_toArray, List.set_cons_zero, List.set_cons_succ])
    | (refine wpS_read (v := ?_) rfl ?_ ?_; rotate_left; (focus (intro w' hG; obtain ⟨b0, b1⟩ := late2 H5.out.1 (GG.out w' hG); obtain ⟨c0, c1, c2, c3, c4⟩ := late5 H5.out.2.1 (GG.out w' hG); obtain ⟨d0, d1⟩ := late2 H5.out.2.2.1 (GG.out w' hG); obtain ⟨e0, e1, e2, e3, e4⟩ := late5 H5.out.2.2.2.1 (GG.out w' hG); have q3 := KM3.out w' (GG.out w' hG); go_simp; try (with_reducible rfl))); simp only [Act.put, List.setIfInBounds_toArray, List.set_cons_zero, List.set_cons_succ])
    | (refine wpS_skip rfl ?_; simp only [Act.put, List.setIfInBounds_toArray, List.set_cons_zero, List.set_cons_succ]))
  refine wpS_call (f := ?_) (args := ?_) (by rfl) ?_ ?_
  rotate_left 2; focus (go_simp; constructor <;> with_reducible rfl)
  refine (HLV.out _ (HWT.out.grow (H5.out.2.2.2.2.1.trans G7.out))).mono ?_
  rintro e w8 ⟨rfl, g8⟩
  refine ⟨_, rfl, g8, ?_⟩
  simp only [Act.put, List.setIfInBounds_toArray, List.set_cons_zero, List.set_cons_succ]
  have G8 : Hid (Grow w w8) := (H5.out.2.2.2.2.1.trans G7.out).trans g8
  clear GG g8
  repeat (first
    | (refine wpS_move rfl ?_; simp only [Act.eval, Act.put, Array.getD_eq_getD_getElem?, List.getElem?_toArray, List.getElem?_cons_zero, List.getElem?_cons_succ, Option.getD_some, List.setIfInBounds_toArray, List.set_cons_zero, List.set_cons_succ])
    | (refine wpS_assign rfl ?_; simp only [Act.eval, Act.put, Array.getD_eq_getD_getElem?, List.getElem?_toArray, List.getElem?_cons_zero, List.getElem?_cons_succ, Option.getD_some, List.setIfInBounds_toArray, List.set_cons_zero, List.set_cons_succ])
    | (refine wpS_read (v := ?_) rfl ?_ ?_; rotate_left; (focus (intro w' hG; go_simp; try (with_reducible rfl))); simp only [Act.put, List.setIfInBounds_toArray, List.set_cons_zero, List.set_cons_succ])
    | (refine wpS_skip rfl ?_; simp only [Act.put, List.setIfInBounds_toArray, List.set_cons_zero, List.set_cons_succ]))
  refine wpS_nil ?_
  clear KM3 KM6 KMY HSM HLV
  go_wp2
  go_ret
  exact ⟨rfl, G8.out⟩
end Go.Proofs.YtdafamocnjfmjaaDoor
