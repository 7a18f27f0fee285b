/-
  The walk of RightsHas. Conditions: the theorem's own.
-/
import Derived.Test.YtfpgbicikpkkiaaDoorW16Needs
namespace Go.Proofs.YtfpgbicikpkkiaaDoor
open Go.RowKit
set_option linter.unusedVariables false
set_option linter.unusedSimpArgs false

/-- a number made one that may be -/
def arN (z : Int) : Nat := (around z 16).toNat
theorem arN_is (z : Int) : ((arN z : Nat) : Int) = around z 16 := by
  have := around_bd z 16 (by omega)
  unfold arN
  omega
theorem arN_lt (z : Int) : arN z < 16 := by
  have := around_bd z 16 (by omega)
  unfold arN
  omega

/-- two rows of the call's own, apart from each other -/
def Two (w u : World) (v x : Value) (L M : List Nat) : Prop :=
  ∃ p q, OwnV natI 0 p u v L ∧ OwnV natI 0 q u x M ∧ (∀ i, p i → w.heap.size ≤ i ∧ i < u.heap.size) ∧ (∀ i, q i → w.heap.size ≤ i ∧ i < u.heap.size) ∧ (∀ i, p i → ¬ q i) ∧ Grow w u
theorem Two.swap {w u : World} {v x : Value} {L M : List Nat} (h : Two w u v x L M) : Two w u x v M L := by
  obtain ⟨p, q, h1, h2, h3, h4, h5, h6⟩ := h
  exact ⟨q, p, h2, h1, h4, h3, fun i a b => h5 i b a, h6⟩
theorem Two.nil (w : World) : Two w w (.slice none 0 0) (.slice none 0 0) [] [] :=
  ⟨fun _ => False, fun _ => False, OwnV.nil _ _ _ _ _, OwnV.nil _ _ _ _ _, fun _ h => h.elim, fun _ h => h.elim, fun _ h => h.elim, Grow.refl _⟩
theorem Two.grow {w u u' : World} {v x : Value} {L M : List Nat} (h : Two w u v x L M) (g : Grow u u') : Two w u' v x L M := by
  obtain ⟨p, q, h1, h2, h3, h4, h5, h6⟩ := h
  have := g.size
  exact ⟨p, q, h1.grow g, h2.grow g, fun i hi => ⟨(h3 i hi).1, by have := (h3 i hi).2; omega⟩, fun i hi => ⟨(h4 i hi).1, by have := (h4 i hi).2; omega⟩, h5, h6.trans g⟩
/-- the first one, and what an append to it makes of both -/
theorem Two.first {w u : World} {v x : Value} {L M : List Nat} (h : Two w u v x L M) : ∃ p, OwnV natI 0 p u v L ∧ ∀ u' v' L', OwnV natI 0 (fun i => p i ∨ i = u.heap.size) u' v' L' → UpdS p u u' → Two w u' v' x L' M := by
  obtain ⟨p, q, h1, h2, h3, h4, h5, h6⟩ := h
  refine ⟨p, h1, fun u' v' L' ho hu => ⟨fun i => (p i ∨ i = u.heap.size) ∧ i < u'.heap.size, q, ho.mono (fun i hi h => ⟨h, hi⟩), h2.upd hu (fun i _ hq hp => h5 i hp hq), fun i hi => ⟨hi.1.elim (fun h => (h3 i h).1) (fun e => by rw [e]; exact h6.size), hi.2⟩, fun i hi => ⟨(h4 i hi).1, Nat.lt_of_lt_of_le (h4 i hi).2 hu.size⟩, fun i hi hq => hi.1.elim (fun h => h5 i h hq) (fun e => ?_), UpdS.new h6 hu (fun i hi => (h3 i hi).1)⟩⟩
  have := (h4 i hq).2
  omega

theorem Tryd.infoSe : (Tryd.prog.info? 23).map (fun i => (i.zero, i.size, i.bytes)) = some (some (Value.int .i64 0), 1, 8) := by kernel_rfl

set_option maxRecDepth 8000 in
set_option maxHeartbeats 4000000 in
theorem rightsHas_walk (v0 : Value) (ls : List Int) (a b : Int) (w : World) (pp : Nat → Prop) (hw : WT w) (hl : RdV (Value.int .i64) 0 pp w v0 ls) (hls : ∀ z ∈ ls, (Lit.int .i64 z).wf = true) (ha : (Lit.int .i64 a).wf = true) (hb : (Lit.int .i64 b).wf = true) :
    Calls Tryd.prog 4 #[v0, .int .i64 a, .int .i64 b] w fun e w' => e = .returned (.bool true) ∧ Grow w w' := by
  obtain ⟨i0, hi, hz0, hz1, hz2⟩ := info_parts Tryd.infoIn
  obtain ⟨i1, hj, hy0, hy1, hy2⟩ := info_parts Tryd.infoSe
  have h1 := fun u => around_any a 16 u ha (by omega) (by omega)
  have h2 := fun u => around_any b 16 u hb (by omega) (by omega)
  have b1 := around_bd a 16 (by omega)
  have b2 := around_bd b 16 (by omega)
  generalize around a 16 = x0 at h1 b1
  generalize around b 16 = y0 at h2 b2
  obtain ⟨x, rfl⟩ := Int.eq_ofNat_of_zero_le b1.1
  obtain ⟨y, rfl⟩ := Int.eq_ofNat_of_zero_le b2.1
  have hx : x < 16 := by omega
  have hy : y < 16 := by omega
  have k1 := fun u => has_any x y u hx hy
  have k2 := fun u => rhas_any x y u hx hy
  generalize hasB x y = hxy at k1 k2
  have hll := hl.len
  unfold maxLen at hll
  have HR : Hid (RdV (Value.int .i64) 0 pp w v0 ls ∧ ∀ z ∈ ls, (Lit.int .i64 z).wf = true) := ⟨hl, hls⟩
  have HB : Hid (∀ x ∈ ls.map arN, x < 16) := fun x hx => by obtain ⟨z, _, rfl⟩ := List.mem_map.1 hx; exact arN_lt z
  have HW : Hid (WT w) := hw
  obtain ⟨a0, c0, rfl⟩ := hl.shape
  clear hl hls hw ha hb b1 b2 hx hy
  go_enter Tryd.func4, Tryd.ntmps4
  go_wp2
  go_loopg [7, 8, 9] ls.length (fun k v7 v8 i wr => ∃ j : Nat, k = ls.length - j ∧ j ≤ ls.length ∧ j ≤ 5 ∧ i = .int .i64 j ∧ Hid (Two w wr v7 v8 ((ls.map arN).take j) ((ls.map arN).take j)))
  case atStart => exact ⟨0, rfl, Nat.zero_le _, Nat.zero_le _, rfl, Two.nil w⟩
  case round =>
    obtain ⟨j, hk, hj, hj5, rfl, HT0⟩ := hrel
    by_cases hlt : j < ls.length
    · have hlt' : (j : Int) < (ls.length : Int) := by omega
      by_cases h5 : j < 5
      · have h5' : (j : Int) < 5 := by omega
        have HJ : Hid (j < ls.length ∧ j < 5 ∧ gk = ls.length - j) := ⟨hlt, h5, hk⟩
        have hg0 : Grow w wr := by obtain ⟨p, q, -, -, -, -, -, h⟩ := HT0.out; exact h
        obtain ⟨bb, oo, e1, -, hc⟩ := (HR.out.1.grow hg0).addr (by omega)
        have f1 := hc j hlt
        have hwf := HR.out.2 (ls.getD j 0) (by simp only [List.getD, List.getElem?_eq_getElem hlt, Option.getD_some]; exact List.getElem_mem hlt)
        have har := around_any (ls.getD j 0) 16 wr hwf (by omega) (by omega)
        rw [← arN_is] at har
        have HS : Hid ((ls.map arN).take (j + 1) = (ls.map arN).take j ++ [arN (ls.getD j 0)]) := by
          show _ = _
          rw [← List.map_take, ← List.map_take, take_snoc ls 0 j hlt, List.map_append]
          rfl
        generalize ls.getD j 0 = z at f1 hwf har HS
        generalize arN z = y at har HS
        have hlen0 : ((ls.map arN).take j).length = j := by rw [List.length_take, List.length_map]; omega
        clear hc hk hj hj5 hlt h5 hg0 hwf
        subst e1
        obtain ⟨p, ho, hF⟩ := (HT0.out.grow ((Grow.refl wr).alloc (.cells #[Value.int .i64 y] 3))).first
        have HF : Hid (∀ u' v' L', OwnV natI 0 (fun i => p i ∨ i = wr.heap.size + 1) u' v' L' → UpdS p (wr.alloc (.cells #[Value.int .i64 y] 3)) u' → Two w u' v' u8 L' ((ls.map arN).take j)) := by rw [World.size_alloc] at hF; exact hF
        have hlb : ((ls.map arN).take j).length ≤ 5 := by have := HJ.out; omega
        have HL0 : Hid (((ls.map arN).take j).length = j) := hlen0
        clear hF hlen0
        go_wp2_with fail
        refine har.mono ?_
        rintro e w1 ⟨rfl, rfl⟩
        clear har
        go_wp2_with (at_builtin; refine wpList_appV (f := natI) (d := 0) rfl (.tmp 22) (.tmp 28) 27 27 rfl i0 (Value.int .i64 0) 8 Tryd.underlying27 hi hz0 hz1 hz2 rfl rfl rfl ho (Src.oneV (w := wr) Tryd.underlying27 natI y rfl 3) (by simp only [maxLen, List.length_singleton]; omega) (by simp only [List.length_singleton]; omega) ?_)
        intro v' w' ho' hu'
        have T1 : Two w w' v' u8 ((ls.map arN).take j ++ [y]) ((ls.map arN).take j) := HF.out _ _ _ ho' hu'
        obtain ⟨a3, n3, e3⟩ := ho'.shape
        have hn3 : ((ls.map arN).take j ++ [y]).length = j + 1 := by rw [List.length_append, HL0.out]; rfl
        rw [hn3] at e3
        subst e3
        obtain ⟨b3, o3, e3, -, hc3⟩ := ho'.rd.addr (by omega)
        have f3 := hc3 j (by omega)
        have hy : ((ls.map arN).take j ++ [y]).getD j 0 = y := by
          simp only [List.getD]
          rw [List.getElem?_append_right (by rw [HL0.out]; exact Nat.le_refl _), HL0.out, Nat.sub_self]
          rfl
        rw [hy] at f3
        unfold natI at f3
        subst e3
        obtain ⟨q, hoq, hFq⟩ := (T1.swap.grow ((Grow.refl w').alloc (.cells #[Value.int .i64 y] 23))).first
        have HFq : Hid (∀ u' v' L', OwnV natI 0 (fun i => q i ∨ i = w'.heap.size + 1) u' v' L' → UpdS q (w'.alloc (.cells #[Value.int .i64 y] 23)) u' → Two w u' v' (.slice (some ⟨b3, o3, none⟩) (j + 1) n3) L' ((ls.map arN).take j ++ [y])) := by rw [World.size_alloc] at hFq; exact hFq
        clear hFq T1 ho' hu' hc3 hy hn3 HF ho
        go_wp2_with (at_builtin; refine wpList_appV (f := natI) (d := 0) rfl (.tmp 30) (.tmp 35) 28 28 rfl i1 (Value.int .i64 0) 8 Tryd.underlying28 hj hy0 hy1 hy2 rfl rfl rfl hoq (Src.oneV (w := w') Tryd.underlying28 natI y rfl 23) (by simp only [maxLen, List.length_singleton]; omega) (by simp only [List.length_singleton]; omega) ?_)
        intro v2 w2 ho2 hu2
        have T2 : Hid (Two w w2 (.slice (some ⟨b3, o3, none⟩) (j + 1) n3) v2 ((ls.map arN).take (j + 1)) ((ls.map arN).take (j + 1))) := by
          rw [HS.out]
          exact (HFq.out _ _ _ ho2 hu2).swap
        clear ho2 hu2 HFq hoq hlb
        go_wp2
        go_roundg (ls.length - (j + 1))
        case measure => have := HJ.out; omega
        case rel => exact ⟨j + 1, rfl, by have := HJ.out; omega, by have := HJ.out; omega, by go_num, T2⟩
      · have h5' : ¬ (j : Int) < 5 := by omega
        have HJ : Hid (j ≤ ls.length) := hj
        clear hk hj hj5 hlt h5
        have HT : Hid (Two w wr u7 u8 ((ls.map arN).take j) ((ls.map arN).take j)) := HT0.out
        obtain ⟨p, q, o1, o2, -, -, -, hg⟩ := HT.out
        have hR : orL ((ls.map arN).take j) < 16 := orL_take_lt _ j HB.out
        have hof := fun u (g : Grow wr u) => of_any u _ _ _ (o2.rd.grow g) (fun x hx => HB.out x (List.mem_of_mem_take hx))
        have hrof := fun u (g : Grow wr u) => rof_any u _ _ _ (o1.rd.grow g) (fun x hx => HB.out x (List.mem_of_mem_take hx))
        obtain ⟨a7, c7, e7⟩ := o1.shape
        obtain ⟨a8, c8, e8⟩ := o2.shape
        generalize ((ls.map arN).take j).length = N at e7 e8
        generalize orL ((ls.map arN).take j) = R at hof hrof hR
        have HG : Hid (Grow w wr) := hg
        clear hR o1 o2 hg HT HT0 HJ
        subst e7 e8
        go_wp2_with fail
        refine (h1 wr).mono ?_
        rintro e w1 ⟨rfl, rfl⟩
        go_wp2_with fail
        refine (h2 wr).mono ?_
        rintro e w1 ⟨rfl, rfl⟩
        clear h1 h2
        go_wp2_with fail
        refine (k1 wr).mono ?_
        rintro e w1 ⟨rfl, rfl⟩
        go_wp2_with fail
        refine (k2 wr).mono ?_
        rintro e w2 ⟨rfl, g2⟩
        clear k1 k2
        have hofw := hof w2 g2
        clear hof
        have hro := hrof w2 g2
        clear hrof
        have HG2 : Hid (Grow w w2) := HG.out.trans g2
        clear g2
        go_wp2_with fail
        refine hofw.mono ?_
        rintro e w3 ⟨rfl, rfl⟩
        clear hofw
        go_wp2_with fail
        refine hro.mono ?_
        rintro e w3 ⟨rfl, g3⟩
        have HG3 : Hid (Grow w w3) := HG2.out.trans g3
        clear hro g3
        go_wp2_with fail
        refine (lives_any w3 (HW.out.grow HG3.out)).mono ?_
        rintro e w4 ⟨rfl, g4⟩
        go_wp2
        go_ret
        exact ⟨rfl, HG3.out.trans g4⟩
    · have hlt' : ¬ (j : Int) < (ls.length : Int) := by omega
      have HJ : Hid (j ≤ ls.length) := hj
      clear hk hj hj5 hlt
      have HT : Hid (Two w wr u7 u8 ((ls.map arN).take j) ((ls.map arN).take j)) := HT0.out
      obtain ⟨p, q, o1, o2, -, -, -, hg⟩ := HT.out
      have hR : orL ((ls.map arN).take j) < 16 := orL_take_lt _ j HB.out
      have hof := fun u (g : Grow wr u) => of_any u _ _ _ (o2.rd.grow g) (fun x hx => HB.out x (List.mem_of_mem_take hx))
      have hrof := fun u (g : Grow wr u) => rof_any u _ _ _ (o1.rd.grow g) (fun x hx => HB.out x (List.mem_of_mem_take hx))
      obtain ⟨a7, c7, e7⟩ := o1.shape
      obtain ⟨a8, c8, e8⟩ := o2.shape
      generalize ((ls.map arN).take j).length = N at e7 e8
      generalize orL ((ls.map arN).take j) = R at hof hrof hR
      have HG : Hid (Grow w wr) := hg
      clear hR o1 o2 hg HT HT0 HJ
      subst e7 e8
      go_wp2_with fail
      refine (h1 wr).mono ?_
      rintro e w1 ⟨rfl, rfl⟩
      go_wp2_with fail
      refine (h2 wr).mono ?_
      rintro e w1 ⟨rfl, rfl⟩
      clear h1 h2
      go_wp2_with fail
      refine (k1 wr).mono ?_
      rintro e w1 ⟨rfl, rfl⟩
      go_wp2_with fail
      refine (k2 wr).mono ?_
      rintro e w2 ⟨rfl, g2⟩
      clear k1 k2
      have hofw := hof w2 g2
      clear hof
      have hro := hrof w2 g2
      clear hrof
      have HG2 : Hid (Grow w w2) := HG.out.trans g2
      clear g2
      go_wp2_with fail
      refine hofw.mono ?_
      rintro e w3 ⟨rfl, rfl⟩
      clear hofw
      go_wp2_with fail
      refine hro.mono ?_
      rintro e w3 ⟨rfl, g3⟩
      have HG3 : Hid (Grow w w3) := HG2.out.trans g3
      clear hro g3
      go_wp2_with fail
      refine (lives_any w3 (HW.out.grow HG3.out)).mono ?_
      rintro e w4 ⟨rfl, g4⟩
      go_wp2
      go_ret
      exact ⟨rfl, HG3.out.trans g4⟩
end Go.Proofs.YtfpgbicikpkkiaaDoor
