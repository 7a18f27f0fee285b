/-
  The walk of the law ExtentApart. Conditions: the theorem's own.
-/
import Derived.Test.YtfjfbcgjocpmoaaExtOwn
import Derived.Test.YtfjfbcgjocpmoaaLibV
namespace Go.Proofs.Ytfjfbcgjocpmoaa
open Go.RowKit
set_option linter.unusedVariables false
set_option linter.unusedSimpArgs false

/-- the sectors seen: those from c on are not -/
def Seen (gs os N cs : Nat) (w : World) (c : Int) : Prop := ∃ zs : List Bool, OwnV Value.bool false (fun i => i = gs) w (.slice (some ⟨gs, os, none⟩) N cs) zs ∧ zs.length = N ∧ ∀ x : Nat, c ≤ (x : Int) → zs.getD x false = false
theorem Seen.grow {gs os N cs : Nat} {w w' : World} {c : Int} (h : Seen gs os N cs w c) (g : Grow w w') : Seen gs os N cs w' c := by
  obtain ⟨zs, h1, h2, h3⟩ := h
  exact ⟨zs, h1.grow g, h2, h3⟩
theorem Seen.mono {gs os N cs : Nat} {w : World} {c c' : Int} (h : Seen gs os N cs w c) (hc : c ≤ c') : Seen gs os N cs w c' := by
  obtain ⟨zs, h1, h2, h3⟩ := h
  exact ⟨zs, h1, h2, fun x hx => h3 x (by omega)⟩
theorem Seen.put {gs os N cs : Nat} {w : World} {c : Int} (h : Seen gs os N cs w c) {j : Nat} (hj : j < N) (hc : c ≤ (j : Int)) :
    w.cell? ⟨gs, os + j, none⟩ = some (.bool false) ∧ w.frozen? ⟨gs, os + j, none⟩ = false ∧ Seen gs os N cs (w.setCell ⟨gs, os + j, none⟩ (.bool true)) ((j : Int) + 1) := by
  obtain ⟨zs, h1, h2, h3⟩ := h
  obtain ⟨g, o, c2, e, hg, _, _, _, hcl, hf, hs⟩ := h1.row (j := j) (by omega)
  injection e with e1 e2 e3
  injection e1 with e1
  injection e1 with e4 e5
  subst e4 e5
  rw [h3 j hc] at hcl
  refine ⟨hcl, hf, zs.set j true, hs true, by rw [List.length_set]; exact h2, fun x hx => ?_⟩
  have hne : j ≠ x := by omega
  have := h3 x (by omega)
  simp only [List.getD] at this ⊢
  rw [List.getElem?_set_ne hne]
  exact this

set_option maxRecDepth 8000 in
set_option maxHeartbeats 8000000 in
theorem extentApart_walk {p : Nat → Prop} (fr dp se : Int) (v : Value) (ps : List Pt) (w : World) (h : RdP p w v ps) (hok : ∀ x ∈ ps, x.Ok) (hdp : W64 dp) (hse : W64 se) :
    Calls Try.prog 6 #[.agg #[.int .i64 fr, .int .i64 dp, .int .i64 se, v]] w fun e w' => e = .returned (.bool true) ∧ Below w.heap.size w w' := by
  have HG : Hid (Grow w (w.alloc (.cells #[.int .i64 fr, .int .i64 dp, .int .i64 se, v] 24))) := (Grow.refl w).alloc _
  have hgood := fun w' (g : Grow w w') => good_any fr dp se v ps w' (RdS.grow h g) hok hdp hse
  obtain ⟨a, cp, rfl, h1, h2, -⟩ := h
  clear hok hdp hse
  go_enter Try.func6, Try.ntmps6
  go_wp2_with fail
  refine (hgood _ HG.out).mono ?_
  rintro e w2 ⟨fr', dp', se', v', ps', rfl, hG, hR, g2⟩
  obtain ⟨N, rfl⟩ : ∃ N : Nat, se' = N := ⟨se'.toNat, by have := hG.bounds; omega⟩
  have HR : Hid (GoodC fr' dp' N ps' ∧ RdP (fun i => (w.alloc (.cells #[.int .i64 fr, .int .i64 dp, .int .i64 se, .slice a ps.length cp] 24)).heap.size ≤ i) w2 v' ps' ∧ Grow w w2) := ⟨hG, hR, HG.out.trans g2⟩
  have hN : 2 ≤ N ∧ N ≤ 42 := by have := hG.bounds; omega
  have hL : 1 ≤ ps'.length ∧ ps'.length ≤ 4 := by have := hG.bounds; omega
  obtain ⟨a', c', rfl, _, _, -⟩ := hR
  clear hG g2 hgood HG
  have X0 : Hid (VarAt (w2.alloc (.cells #[.int .i64 fr', .int .i64 dp', .int .i64 (N : Int), .slice a' ps'.length c'] 24)) w2.heap.size [.int .i64 fr', .int .i64 dp', .int .i64 (N : Int), .slice a' ps'.length c'] ∧ Grow w2 (w2.alloc (.cells #[.int .i64 fr', .int .i64 dp', .int .i64 (N : Int), .slice a' ps'.length c'] 24))) := ⟨VarAt.new w2 [.int .i64 fr', .int .i64 dp', .int .i64 (N : Int), .slice a' ps'.length c'] _, (Grow.refl w2).alloc _⟩
  obtain ⟨i0, hi0, hz0, hz1, hz2⟩ := info_parts (show (Try.prog.info? 4).map (fun i => (i.zero, i.size, i.bytes)) = some (some (.bool false), 1, 1) by kernel_rfl)
  go_wp2_with (at_make; refine wpList_makeV rfl (.tmp 17) (.tmp 17) 44 rfl Value.bool false 4 i0 Try.underlying44 hi0 hz0 rfl 1 hz1 hz2 .i64 .i64 _ N rfl rfl rfl (by omega) (by omega) ?_)
  intro v5 w5 ho5 g5 hlt5
  have e3 : (w2.alloc (.cells #[.int .i64 fr', .int .i64 dp', .int .i64 (N : Int), .slice a' ps'.length c'] 24)).heap.size = w2.heap.size + 1 := by simp
  generalize w2.alloc (.cells #[.int .i64 fr', .int .i64 dp', .int .i64 (N : Int), .slice a' ps'.length c'] 24) = w3 at X0 g5 e3
  generalize w2.heap.size = b3 at X0 ho5 hlt5 e3 ⊢
  have HV : Hid (RdP (fun i => (w.alloc (.cells #[.int .i64 fr, .int .i64 dp, .int .i64 se, .slice a ps.length cp] 24)).heap.size ≤ i) w3 (.slice a' ps'.length c') ps' ∧ GoodC fr' dp' N ps' ∧ InB ps' ∧ Grow w w3 ∧ VarAt w5 b3 [.int .i64 fr', .int .i64 dp', .int .i64 (N : Int), .slice a' ps'.length c']) := ⟨RdS.grow HR.out.2.1 X0.out.2, HR.out.1, HR.out.1.inb, HR.out.2.2.trans X0.out.2, X0.out.1.grow g5⟩
  have hb3 := X0.out.1.lt
  clear X0 HR
  obtain ⟨gs, os, cs, hv5, hgs, hgl, hnc, hcm, -, -, -⟩ := ho5.row (j := 0) (by rw [List.length_replicate]; omega)
  rw [List.length_replicate] at hv5 hnc
  subst hv5
  have HS0 : Hid (Seen gs os N cs w5 0) := by
    refine ⟨List.replicate N false, ?_, List.length_replicate, fun x _ => ?_⟩
    · exact OwnV.mono ho5 (fun i _ hi => by rw [hi, hgs])
    · simp only [List.getD, List.getElem?_replicate]; split <;> rfl
  have HB : Hid (b3 < gs ∧ gs = w3.heap.size ∧ Grow w3 w5) := ⟨by omega, by omega, g5⟩
  clear ho5 g5 hlt5 hgs hgl hb3 e3 hi0 hz0 hz1 hz2
  go_wp2
  go_loopg [5] ps'.length (fun m tv wr => ∃ (t : Nat), m = ps'.length - t ∧ t ≤ ps'.length ∧ tv = .int .i64 t ∧ Hid (VarAt wr b3 [.int .i64 fr', .int .i64 dp', .int .i64 (N : Int), .slice a' ps'.length c'] ∧ Grow w3 wr ∧ ∃ c, Seen gs os N cs wr c ∧ (t < ps'.length → c ≤ (ps'.getD t Pt.zero).b)))
  case atStart => exact ⟨0, by omega, by omega, rfl, HV.out.2.2.2.2, HB.out.2.2, 0, HS0.out, fun h => (HV.out.2.1.within h).1⟩
  case round =>
    clear HS0
    obtain ⟨t, hk, hj, rfl, Y⟩ := hrel
    obtain ⟨⟨m0, m1, m2, m3⟩, -⟩ := Y.out.1.four
    by_cases hst : t < ps'.length
    · have hle : (t : Int) < (ps'.length : Int) := by omega
      have HK : Hid (t < ps'.length ∧ gk = ps'.length - t) := ⟨hst, hk⟩
      have hw1 : IntKind.i64.wrap ((t : Int) + 1) = (t : Int) + 1 := by rw [IntKind.wrap_i64]; omega
      obtain ⟨bb, oo, rfl, _, _, hin⟩ := rdP_at HV.out.1 hst
      have hwi := HV.out.2.1.within hst
      have hpg := fun (q k : Int) hq => HV.out.2.1.own_page (i := t) hst (g := q) (k := k) hq
      have hal := fun w' (gr : Grow w3 w') (q : Int) h0 hq => all_ok fr' dp' N t q _ ps' w' (RdS.grow HV.out.1 gr) hst h0 hq (HV.out.2.2.1 t hst)
      have HN : Hid (t + 1 < ps'.length → (ps'.getD t Pt.zero).b + 2 * (ps'.getD t Pt.zero).g ≤ (ps'.getD (t + 1) Pt.zero).b) := fun h => HV.out.2.1.next h
      obtain ⟨c, hsc, hcb⟩ := Y.out.2.2
      have Y1 : Hid (Seen gs os N cs wr (ps'.getD t Pt.zero).b) := hsc.mono (hcb hst)
      generalize ps'.getD t Pt.zero = d at hin hwi hpg hal HN Y1
      obtain ⟨G, hG⟩ : ∃ G : Nat, d.g = G := ⟨d.g.toNat, by omega⟩
      rw [hG] at hwi hpg hal HN
      have HP : Hid (PIn w3 bb (oo + t * 3) d ∧ d.g = G) := ⟨hin, hG⟩
      obtain ⟨hwi0, hwi1, hwi2, hwi3⟩ := hwi
      have Y2 : Hid (VarAt wr b3 [.int .i64 fr', .int .i64 dp', .int .i64 (N : Int), .slice (some ⟨bb, oo, none⟩) ps'.length c'] ∧ Grow w3 wr ∧ Seen gs os N cs wr d.b) := ⟨Y.out.1, Y.out.2.1, Y1.out⟩
      clear hk hj hst hcb hsc Y1 hin hG Y
      go_wp2
      clear m0 m1 m2 m3
      go_loopg [6] G (fun m pv wr => ∃ (q : Nat), m = G - q ∧ q ≤ G ∧ pv = .int .i64 q ∧ Hid (VarAt wr b3 [.int .i64 fr', .int .i64 dp', .int .i64 (N : Int), .slice (some ⟨bb, oo, none⟩) ps'.length c'] ∧ Grow w3 wr ∧ Seen gs os N cs wr (d.b + 2 * (q : Int))))
      case atStart => exact ⟨0, by omega, by omega, rfl, Y2.out.1, Y2.out.2.1, Y2.out.2.2.mono (by omega)⟩
      case round =>
        clear Y2
        obtain ⟨q, hk, hj, rfl, X⟩ := hrel
        obtain ⟨⟨m0, m1, m2, m3⟩, -⟩ := X.out.1.four
        obtain ⟨k0, k1, k2⟩ := HP.out.1.grow X.out.2.1
        rw [HP.out.2] at k2
        by_cases hqt : q < G
        · have hle2 : (q : Int) < (G : Int) := by omega
          have HQ : Hid (q < G ∧ gk = G - q) := ⟨hqt, hk⟩
          have hw2 : IntKind.i64.wrap ((q : Int) + 1) = (q : Int) + 1 := by rw [IntKind.wrap_i64]; omega
          have hall := hal wr X.out.2.1 q (by omega) hle2
          have hp0 := hpg q 0 ⟨by omega, hle2, by omega, by omega⟩
          have hp1 := hpg q 1 ⟨by omega, hle2, by omega, by omega⟩
          rw [Int.add_zero] at hp0
          have how0 := fun w' (gr : Grow w3 w') => owner_any fr' dp' N (d.b + 2 * (q : Int)) _ ps' w' (RdS.grow HV.out.1 gr) HV.out.2.2.1
          have how1 := fun w' (gr : Grow w3 w') => owner_any fr' dp' N (d.b + 2 * (q : Int) + 1) _ ps' w' (RdS.grow HV.out.1 gr) HV.out.2.2.1
          rw [hp0] at how0
          rw [hp1] at how1
          obtain ⟨S1, hS1⟩ : ∃ S1 : Nat, d.b + 2 * (q : Int) + 1 = S1 := ⟨(d.b + 2 * (q : Int) + 1).toNat, by omega⟩
          obtain ⟨S0, hS0⟩ : ∃ S0 : Nat, d.b + 2 * (q : Int) = S0 := ⟨(d.b + 2 * (q : Int)).toNat, by omega⟩
          rw [hS1] at hall how1
          rw [hS0] at hall how0
          have HSS : Hid ((S1 : Int) = S0 + 1 ∧ d.b + 2 * (q : Int) = S0) := ⟨by omega, hS0⟩
          have HS : Hid (S0 < N ∧ S1 < N) := ⟨by omega, by omega⟩
          have e0 : (S0 : Int) < (N : Int) := by omega
          have e1 : (S1 : Int) < (N : Int) := by omega
          have e2 : decide ((S0 : Int) < 0) = false := by simp only [decide_eq_false_iff_not]; omega
          have e3 : decide ((S1 : Int) < 0) = false := by simp only [decide_eq_false_iff_not]; omega
          have e4 : decide ((N : Int) ≤ (S0 : Int)) = false := by simp only [decide_eq_false_iff_not]; omega
          have e5 : decide ((N : Int) ≤ (S1 : Int)) = false := by simp only [decide_eq_false_iff_not]; omega
          have X2 : Hid (VarAt wr b3 [.int .i64 fr', .int .i64 dp', .int .i64 (N : Int), .slice (some ⟨bb, oo, none⟩) ps'.length c'] ∧ Grow w3 wr ∧ Seen gs os N cs wr (S0 : Int)) := ⟨X.out.1, X.out.2.1, by rw [← HSS.out.2]; exact X.out.2.2⟩
          clear hk hj hqt hp0 hp1 hS1 hS0 X
          go_wp2_with fail
          refine hall.mono ?_
          rintro e w6 ⟨rfl, g6⟩
          have X3 : Hid (VarAt (w6.alloc (.cells #[.int .i64 (S0 : Int), .int .i64 (S1 : Int)] 31)) b3 [.int .i64 fr', .int .i64 dp', .int .i64 (N : Int), .slice (some ⟨bb, oo, none⟩) ps'.length c'] ∧ VarAt (w6.alloc (.cells #[.int .i64 (S0 : Int), .int .i64 (S1 : Int)] 31)) w6.heap.size [.int .i64 (S0 : Int), .int .i64 (S1 : Int)] ∧ Grow w3 (w6.alloc (.cells #[.int .i64 (S0 : Int), .int .i64 (S1 : Int)] 31)) ∧ Seen gs os N cs (w6.alloc (.cells #[.int .i64 (S0 : Int), .int .i64 (S1 : Int)] 31)) (S0 : Int)) := ⟨(X2.out.1.grow g6).old _, VarAt.new w6 [.int .i64 (S0 : Int), .int .i64 (S1 : Int)] _, (X2.out.2.1.trans g6).alloc _, (X2.out.2.2.grow g6).grow ((Grow.refl w6).alloc _)⟩
          have HB7 : Hid (gs ≠ w6.heap.size) := by
            obtain ⟨zs, z1, z2, -⟩ := X2.out.2.2.grow g6
            obtain ⟨g', o', c'', e', hg', hgl', -⟩ := z1.row (j := 0) (by omega)
            have : gs < w6.heap.size := by rw [← hg']; exact hgl'
            show gs ≠ w6.heap.size
            omega
          clear g6 hall X2 m0 m1 m2 m3 k0 k1 k2
          go_wp2
          generalize w6.alloc (.cells #[.int .i64 (S0 : Int), .int .i64 (S1 : Int)] 31) = w7 at X3 ⊢
          generalize w6.heap.size = b7 at X3 HB7 ⊢
          go_loopg [9] 2 (fun m iv wr => (m = 2 ∧ iv = .int .i64 0 ∧ Hid (VarAt wr b3 [.int .i64 fr', .int .i64 dp', .int .i64 (N : Int), .slice (some ⟨bb, oo, none⟩) ps'.length c'] ∧ VarAt wr b7 [.int .i64 (S0 : Int), .int .i64 (S1 : Int)] ∧ Grow w3 wr ∧ Seen gs os N cs wr (S0 : Int))) ∨ (m = 1 ∧ iv = .int .i64 1 ∧ Hid (VarAt wr b3 [.int .i64 fr', .int .i64 dp', .int .i64 (N : Int), .slice (some ⟨bb, oo, none⟩) ps'.length c'] ∧ VarAt wr b7 [.int .i64 (S0 : Int), .int .i64 (S1 : Int)] ∧ Grow w3 wr ∧ Seen gs os N cs wr (S1 : Int))) ∨ (m = 0 ∧ iv = .int .i64 2 ∧ Hid (VarAt wr b3 [.int .i64 fr', .int .i64 dp', .int .i64 (N : Int), .slice (some ⟨bb, oo, none⟩) ps'.length c'] ∧ VarAt wr b7 [.int .i64 (S0 : Int), .int .i64 (S1 : Int)] ∧ Grow w3 wr ∧ Seen gs os N cs wr ((S1 : Int) + 1))))
          case atStart => exact .inl ⟨rfl, rfl, X3.out.1, X3.out.2.1, X3.out.2.2.1, X3.out.2.2.2⟩
          case round =>
            clear X3
            rcases hrel with ⟨hk, rfl, Z⟩ | ⟨hk, rfl, Z⟩ | ⟨hk, rfl, Z⟩
            · have HK2 : Hid (gk = 2) := hk
              clear hk
              have Z0 : Hid (VarAt wr.drew b3 [.int .i64 fr', .int .i64 dp', .int .i64 (N : Int), .slice (some ⟨bb, oo, none⟩) ps'.length c'] ∧ VarAt wr.drew b7 [.int .i64 (S0 : Int), .int .i64 (S1 : Int)] ∧ Grow w3 wr.drew ∧ Seen gs os N cs wr.drew S0) := ⟨Z.out.1.grow (Grow.refl wr).drew, Z.out.2.1.grow (Grow.refl wr).drew, Z.out.2.2.1.trans (Grow.refl wr).drew, Z.out.2.2.2.grow (Grow.refl wr).drew⟩
              have kx : ∀ w', Grow wr.drew w' → VarAt w' b3 [.int .i64 fr', .int .i64 dp', .int .i64 (N : Int), .slice (some ⟨bb, oo, none⟩) ps'.length c'] ∧ VarAt w' b7 [.int .i64 (S0 : Int), .int .i64 (S1 : Int)] := fun w' h => ⟨Z0.out.1.grow h, Z0.out.2.1.grow h⟩
              go_wp2
              refine wp_region_sched (by kernel_rfl) [(0, false), (1, false), (2, false), (3, false), (4, false), (5, false), (6, false), (7, false), (8, false), (9, false), (10, false), (11, false)] (by kernel_rfl) (by kernel_rfl) rfl (fun _ _ d _ _ h => by cases d <;> exact h) ?_
              simp only [inOrder, List.filterMap_cons, List.filterMap_nil, List.getElem?_toArray, List.getElem?_cons_zero, List.getElem?_cons_succ, Option.map_some]
              repeat (first
                | (refine wpS_move rfl ?_; simp only [Act.eval, Act.put, Array.getD_eq_getD_getElem?, List.getElem?_toArray, List.getElem?_cons_zero, List.getElem?_cons_succ, Option.getD_some, List.setIfInBounds_toArray, List.set_cons_zero, List.set_cons_succ])
                | (refine wpS_assign rfl ?_; simp only [Act.eval, Act.put, Array.getD_eq_getD_getElem?, List.getElem?_toArray, List.getElem?_cons_zero, List.getElem?_cons_succ, Option.getD_some, List.setIfInBounds_toArray, List.set_cons_zero, List.set_cons_succ])
                | (refine wpS_read (v := ?_) rfl ?_ ?_; rotate_left; (focus (intro w' hG; (obtain ⟨⟨⟨k0, k1, k2, k3⟩, -⟩, ⟨k4, k5⟩, -⟩ := (fun (x : VarAt w' b3 [.int .i64 fr', .int .i64 dp', .int .i64 (N : Int), .slice (some ⟨bb, oo, none⟩) ps'.length c'] ∧ VarAt w' b7 [.int .i64 (S0 : Int), .int .i64 (S1 : Int)]) => And.intro x.1.four x.2.two) (kx w' hG)); go_simp; try (with_reducible rfl))); simp only [Act.put, List.setIfInBounds_toArray, List.set_cons_zero, List.set_cons_succ])
                | (refine wpS_skip rfl ?_; simp only [Act.put, List.setIfInBounds_toArray, List.set_cons_zero, List.set_cons_succ]))
              refine wpS_nil ?_
              clear kx Z
              generalize wr.drew = u at Z0 ⊢
              obtain ⟨n0, n1, n2⟩ := Z0.out.2.2.2.put (j := S0) HS.out.1 (Int.le_refl _)
              have U : Hid (VarAt (u.setCell ⟨gs, os + S0, none⟩ (.bool true)) b3 [.int .i64 fr', .int .i64 dp', .int .i64 (N : Int), .slice (some ⟨bb, oo, none⟩) ps'.length c'] ∧ VarAt (u.setCell ⟨gs, os + S0, none⟩ (.bool true)) b7 [.int .i64 (S0 : Int), .int .i64 (S1 : Int)] ∧ Grow w3 (u.setCell ⟨gs, os + S0, none⟩ (.bool true)) ∧ Seen gs os N cs (u.setCell ⟨gs, os + S0, none⟩ (.bool true)) ((S0 : Int) + 1)) := ⟨Z0.out.1.upd (upd_one u gs (os + S0) _) (by have := HB.out; omega), Z0.out.2.1.upd (upd_one u gs (os + S0) _) (by have := HB7.out; omega), UpdS.new Z0.out.2.2.1 (upd_one u gs (os + S0) _) (fun i hi => by have := HB.out; omega), n2⟩
              obtain ⟨⟨k4, k5⟩, -⟩ := Z0.out.2.1.two
              clear n2
              go_wp2
              generalize u.setCell ⟨gs, os + S0, none⟩ (.bool true) = u2 at U ⊢
              clear n0 n1 k4 k5 Z0
              have kx : ∀ w', Grow u2.drew w' → VarAt w' b3 [.int .i64 fr', .int .i64 dp', .int .i64 (N : Int), .slice (some ⟨bb, oo, none⟩) ps'.length c'] ∧ VarAt w' b7 [.int .i64 (S0 : Int), .int .i64 (S1 : Int)] := fun w' h => ⟨U.out.1.grow ((Grow.refl u2).drew.trans h), U.out.2.1.grow ((Grow.refl u2).drew.trans h)⟩
              refine wp_region_sched (by kernel_rfl) [(0, false), (1, false), (2, false), (3, false), (4, true), (5, false), (6, false), (7, false), (8, false), (9, false), (10, false), (11, false), (12, false), (13, false)] (by kernel_rfl) (by kernel_rfl) rfl (fun _ _ d _ _ h => by cases d <;> exact h) ?_
              simp only [inOrder, List.filterMap_cons, List.filterMap_nil, List.getElem?_toArray, List.getElem?_cons_zero, List.getElem?_cons_succ, Option.map_some]
              repeat (first
                | (refine wpS_move rfl ?_; simp only [Act.eval, Act.put, Array.getD_eq_getD_getElem?, List.getElem?_toArray, List.getElem?_cons_zero, List.getElem?_cons_succ, Option.getD_some, List.setIfInBounds_toArray, List.set_cons_zero, List.set_cons_succ])
                | (refine wpS_assign rfl ?_; simp only [Act.eval, Act.put, Array.getD_eq_getD_getElem?, List.getElem?_toArray, List.getElem?_cons_zero, List.getElem?_cons_succ, Option.getD_some, List.setIfInBounds_toArray, List.set_cons_zero, List.set_cons_succ])
                | (refine wpS_read (v := ?_) rfl ?_ ?_; rotate_left; (focus (intro w' hG; (obtain ⟨⟨⟨k0, k1, k2, k3⟩, -⟩, ⟨k4, k5⟩, -⟩ := (fun (x : VarAt w' b3 [.int .i64 fr', .int .i64 dp', .int .i64 (N : Int), .slice (some ⟨bb, oo, none⟩) ps'.length c'] ∧ VarAt w' b7 [.int .i64 (S0 : Int), .int .i64 (S1 : Int)]) => And.intro x.1.four x.2.two) (kx w' hG)); go_simp; try (with_reducible rfl))); simp only [Act.put, List.setIfInBounds_toArray, List.set_cons_zero, List.set_cons_succ])
                | (refine wpS_skip rfl ?_; simp only [Act.put, List.setIfInBounds_toArray, List.set_cons_zero, List.set_cons_succ]))
              refine wpS_call (f := ?_) (args := ?_) (by rfl) ?_ ?_
              rotate_left 2; focus (go_simp; constructor <;> with_reducible rfl)
              refine (how0 u2.drew (U.out.2.2.1.trans (Grow.refl u2).drew)).mono ?_
              rintro e w8 ⟨rfl, g8⟩
              refine ⟨_, rfl, g8, ?_⟩
              simp only [Act.put, List.setIfInBounds_toArray, List.set_cons_zero, List.set_cons_succ]
              repeat (first
                | (refine wpS_move rfl ?_; simp only [Act.eval, Act.put, Array.getD_eq_getD_getElem?, List.getElem?_toArray, List.getElem?_cons_zero, List.getElem?_cons_succ, Option.getD_some, List.setIfInBounds_toArray, List.set_cons_zero, List.set_cons_succ])
                | (refine wpS_assign rfl ?_; simp only [Act.eval, Act.put, Array.getD_eq_getD_getElem?, List.getElem?_toArray, List.getElem?_cons_zero, List.getElem?_cons_succ, Option.getD_some, List.setIfInBounds_toArray, List.set_cons_zero, List.set_cons_succ])
                | (refine wpS_read (v := ?_) rfl ?_ ?_; rotate_left; (focus (intro w' hG; skip; go_simp; try (with_reducible rfl))); simp only [Act.put, List.setIfInBounds_toArray, List.set_cons_zero, List.set_cons_succ])
                | (refine wpS_skip rfl ?_; simp only [Act.put, List.setIfInBounds_toArray, List.set_cons_zero, List.set_cons_succ]))
              refine wpS_nil ?_
              have G8 : Grow u2 w8 := (Grow.refl u2).drew.trans g8
              have V8 : Hid (VarAt w8 b3 [.int .i64 fr', .int .i64 dp', .int .i64 (N : Int), .slice (some ⟨bb, oo, none⟩) ps'.length c'] ∧ VarAt w8 b7 [.int .i64 (S0 : Int), .int .i64 (S1 : Int)] ∧ Grow w3 w8 ∧ Seen gs os N cs w8 ((S0 : Int) + 1)) := ⟨U.out.1.grow G8, U.out.2.1.grow G8, U.out.2.2.1.trans G8, U.out.2.2.2.grow G8⟩
              clear g8 G8 kx U
              go_wp2
              go_roundg 1
              case measure => have := HK2.out; omega
              case rel => exact .inr (.inl ⟨rfl, rfl, V8.out.1, V8.out.2.1, V8.out.2.2.1, V8.out.2.2.2.mono (by have := HSS.out; omega)⟩)
            · have HK2 : Hid (gk = 1) := hk
              clear hk
              have Z0 : Hid (VarAt wr.drew b3 [.int .i64 fr', .int .i64 dp', .int .i64 (N : Int), .slice (some ⟨bb, oo, none⟩) ps'.length c'] ∧ VarAt wr.drew b7 [.int .i64 (S0 : Int), .int .i64 (S1 : Int)] ∧ Grow w3 wr.drew ∧ Seen gs os N cs wr.drew S1) := ⟨Z.out.1.grow (Grow.refl wr).drew, Z.out.2.1.grow (Grow.refl wr).drew, Z.out.2.2.1.trans (Grow.refl wr).drew, Z.out.2.2.2.grow (Grow.refl wr).drew⟩
              have kx : ∀ w', Grow wr.drew w' → VarAt w' b3 [.int .i64 fr', .int .i64 dp', .int .i64 (N : Int), .slice (some ⟨bb, oo, none⟩) ps'.length c'] ∧ VarAt w' b7 [.int .i64 (S0 : Int), .int .i64 (S1 : Int)] := fun w' h => ⟨Z0.out.1.grow h, Z0.out.2.1.grow h⟩
              go_wp2
              refine wp_region_sched (by kernel_rfl) [(0, false), (1, false), (2, false), (3, false), (4, false), (5, false), (6, false), (7, false), (8, false), (9, false), (10, false), (11, false)] (by kernel_rfl) (by kernel_rfl) rfl (fun _ _ d _ _ h => by cases d <;> exact h) ?_
              simp only [inOrder, List.filterMap_cons, List.filterMap_nil, List.getElem?_toArray, List.getElem?_cons_zero, List.getElem?_cons_succ, Option.map_some]
              repeat (first
                | (refine wpS_move rfl ?_; simp only [Act.eval, Act.put, Array.getD_eq_getD_getElem?, List.getElem?_toArray, List.getElem?_cons_zero, List.getElem?_cons_succ, Option.getD_some, List.setIfInBounds_toArray, List.set_cons_zero, List.set_cons_succ])
                | (refine wpS_assign rfl ?_; simp only [Act.eval, Act.put, Array.getD_eq_getD_getElem?, List.getElem?_toArray, List.getElem?_cons_zero, List.getElem?_cons_succ, Option.getD_some, List.setIfInBounds_toArray, List.set_cons_zero, List.set_cons_succ])
                | (refine wpS_read (v := ?_) rfl ?_ ?_; rotate_left; (focus (intro w' hG; (obtain ⟨⟨⟨k0, k1, k2, k3⟩, -⟩, ⟨k4, k5⟩, -⟩ := (fun (x : VarAt w' b3 [.int .i64 fr', .int .i64 dp', .int .i64 (N : Int), .slice (some ⟨bb, oo, none⟩) ps'.length c'] ∧ VarAt w' b7 [.int .i64 (S0 : Int), .int .i64 (S1 : Int)]) => And.intro x.1.four x.2.two) (kx w' hG)); go_simp; try (with_reducible rfl))); simp only [Act.put, List.setIfInBounds_toArray, List.set_cons_zero, List.set_cons_succ])
                | (refine wpS_skip rfl ?_; simp only [Act.put, List.setIfInBounds_toArray, List.set_cons_zero, List.set_cons_succ]))
              refine wpS_nil ?_
              clear kx Z
              generalize wr.drew = u at Z0 ⊢
              obtain ⟨n0, n1, n2⟩ := Z0.out.2.2.2.put (j := S1) HS.out.2 (Int.le_refl _)
              have U : Hid (VarAt (u.setCell ⟨gs, os + S1, none⟩ (.bool true)) b3 [.int .i64 fr', .int .i64 dp', .int .i64 (N : Int), .slice (some ⟨bb, oo, none⟩) ps'.length c'] ∧ VarAt (u.setCell ⟨gs, os + S1, none⟩ (.bool true)) b7 [.int .i64 (S0 : Int), .int .i64 (S1 : Int)] ∧ Grow w3 (u.setCell ⟨gs, os + S1, none⟩ (.bool true)) ∧ Seen gs os N cs (u.setCell ⟨gs, os + S1, none⟩ (.bool true)) ((S1 : Int) + 1)) := ⟨Z0.out.1.upd (upd_one u gs (os + S1) _) (by have := HB.out; omega), Z0.out.2.1.upd (upd_one u gs (os + S1) _) (by have := HB7.out; omega), UpdS.new Z0.out.2.2.1 (upd_one u gs (os + S1) _) (fun i hi => by have := HB.out; omega), n2⟩
              obtain ⟨⟨k4, k5⟩, -⟩ := Z0.out.2.1.two
              clear n2
              go_wp2
              generalize u.setCell ⟨gs, os + S1, none⟩ (.bool true) = u2 at U ⊢
              clear n0 n1 k4 k5 Z0
              have kx : ∀ w', Grow u2.drew w' → VarAt w' b3 [.int .i64 fr', .int .i64 dp', .int .i64 (N : Int), .slice (some ⟨bb, oo, none⟩) ps'.length c'] ∧ VarAt w' b7 [.int .i64 (S0 : Int), .int .i64 (S1 : Int)] := fun w' h => ⟨U.out.1.grow ((Grow.refl u2).drew.trans h), U.out.2.1.grow ((Grow.refl u2).drew.trans h)⟩
              refine wp_region_sched (by kernel_rfl) [(0, false), (1, false), (2, false), (3, false), (4, true), (5, false), (6, false), (7, false), (8, false), (9, false), (10, false), (11, false), (12, false), (13, false)] (by kernel_rfl) (by kernel_rfl) rfl (fun _ _ d _ _ h => by cases d <;> exact h) ?_
              simp only [inOrder, List.filterMap_cons, List.filterMap_nil, List.getElem?_toArray, List.getElem?_cons_zero, List.getElem?_cons_succ, Option.map_some]
              repeat (first
                | (refine wpS_move rfl ?_; simp only [Act.eval, Act.put, Array.getD_eq_getD_getElem?, List.getElem?_toArray, List.getElem?_cons_zero, List.getElem?_cons_succ, Option.getD_some, List.setIfInBounds_toArray, List.set_cons_zero, List.set_cons_succ])
                | (refine wpS_assign rfl ?_; simp only [Act.eval, Act.put, Array.getD_eq_getD_getElem?, List.getElem?_toArray, List.getElem?_cons_zero, List.getElem?_cons_succ, Option.getD_some, List.setIfInBounds_toArray, List.set_cons_zero, List.set_cons_succ])
                | (refine wpS_read (v := ?_) rfl ?_ ?_; rotate_left; (focus (intro w' hG; (obtain ⟨⟨⟨k0, k1, k2, k3⟩, -⟩, ⟨k4, k5⟩, -⟩ := (fun (x : VarAt w' b3 [.int .i64 fr', .int .i64 dp', .int .i64 (N : Int), .slice (some ⟨bb, oo, none⟩) ps'.length c'] ∧ VarAt w' b7 [.int .i64 (S0 : Int), .int .i64 (S1 : Int)]) => And.intro x.1.four x.2.two) (kx w' hG)); go_simp; try (with_reducible rfl))); simp only [Act.put, List.setIfInBounds_toArray, List.set_cons_zero, List.set_cons_succ])
                | (refine wpS_skip rfl ?_; simp only [Act.put, List.setIfInBounds_toArray, List.set_cons_zero, List.set_cons_succ]))
              refine wpS_call (f := ?_) (args := ?_) (by rfl) ?_ ?_
              rotate_left 2; focus (go_simp; constructor <;> with_reducible rfl)
              refine (how1 u2.drew (U.out.2.2.1.trans (Grow.refl u2).drew)).mono ?_
              rintro e w8 ⟨rfl, g8⟩
              refine ⟨_, rfl, g8, ?_⟩
              simp only [Act.put, List.setIfInBounds_toArray, List.set_cons_zero, List.set_cons_succ]
              repeat (first
                | (refine wpS_move rfl ?_; simp only [Act.eval, Act.put, Array.getD_eq_getD_getElem?, List.getElem?_toArray, List.getElem?_cons_zero, List.getElem?_cons_succ, Option.getD_some, List.setIfInBounds_toArray, List.set_cons_zero, List.set_cons_succ])
                | (refine wpS_assign rfl ?_; simp only [Act.eval, Act.put, Array.getD_eq_getD_getElem?, List.getElem?_toArray, List.getElem?_cons_zero, List.getElem?_cons_succ, Option.getD_some, List.setIfInBounds_toArray, List.set_cons_zero, List.set_cons_succ])
                | (refine wpS_read (v := ?_) rfl ?_ ?_; rotate_left; (focus (intro w' hG; skip; go_simp; try (with_reducible rfl))); simp only [Act.put, List.setIfInBounds_toArray, List.set_cons_zero, List.set_cons_succ])
                | (refine wpS_skip rfl ?_; simp only [Act.put, List.setIfInBounds_toArray, List.set_cons_zero, List.set_cons_succ]))
              refine wpS_nil ?_
              have G8 : Grow u2 w8 := (Grow.refl u2).drew.trans g8
              have V8 : Hid (VarAt w8 b3 [.int .i64 fr', .int .i64 dp', .int .i64 (N : Int), .slice (some ⟨bb, oo, none⟩) ps'.length c'] ∧ VarAt w8 b7 [.int .i64 (S0 : Int), .int .i64 (S1 : Int)] ∧ Grow w3 w8 ∧ Seen gs os N cs w8 ((S1 : Int) + 1)) := ⟨U.out.1.grow G8, U.out.2.1.grow G8, U.out.2.2.1.trans G8, U.out.2.2.2.grow G8⟩
              clear g8 G8 kx U
              go_wp2
              go_roundg 0
              case measure => have := HK2.out; omega
              case rel => exact .inr (.inr ⟨rfl, rfl, V8.out.1, V8.out.2.1, V8.out.2.2.1, V8.out.2.2.2.mono (by have := HSS.out; omega)⟩)
            · clear hk
              go_wp2
              go_roundg (G - (q + 1))
              case measure => have := HQ.out; omega
              case rel => exact ⟨q + 1, rfl, HQ.out.1, by go_num, Z.out.1, Z.out.2.2.1, Z.out.2.2.2.mono (by have := HSS.out; omega)⟩
        · have hle2 : ¬ (q : Int) < (G : Int) := by omega
          obtain rfl : q = G := by omega
          clear hk hj hqt
          go_wp2
          go_roundg (ps'.length - (t + 1))
          case measure => have := HK.out; omega
          case rel => exact ⟨t + 1, rfl, HK.out.1, by go_num, X.out.1, X.out.2.1, _, X.out.2.2, HN.out⟩
    · have hle : ¬ (t : Int) < (ps'.length : Int) := by omega
      have hlv := lives_any wr
      clear hk hj hst
      go_wp2_with fail
      refine hlv.mono ?_
      rintro e w6 ⟨rfl, g6⟩
      go_wp2
      go_ret
      exact ⟨rfl, (HV.out.2.2.2.1.trans Y.out.2.1).trans g6⟩
end Go.Proofs.Ytfjfbcgjocpmoaa
