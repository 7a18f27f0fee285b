/-
  The walk of the document's Barrier. Conditions: each theorem's own.
-/
import Derived.Test.YtpkoiogdkaklfaaDevDoc2
import Derived.Test.YtpkoiogdkaklfaaDevDocL
import Derived.Test.YtpkoiogdkaklfaaDevGo
namespace Go.Proofs.Ytpkoiogdkaklfaa
open Go.RowKit
set_option linter.unusedVariables false
set_option linter.unusedSimpArgs false

/-- a variable of the document's device: its block, what it has -/
def DocVar (w : World) (b : Nat) (q : Nat → Prop) (las lat : List (List Int)) (hd : List Int) : Prop := ∃ lv tv hv, VarAt w b [lv, tv, hv] ∧ DocV q w lv tv hv las lat hd ∧ ¬ q b
theorem DocVar.upd {S : Nat → Prop} {w w' : World} {b : Nat} {q : Nat → Prop} {las lat : List (List Int)} {hd : List Int} (h : DocVar w b q las lat hd) (hu : UpdS S w w') (hb : ¬ S b) (hS : ∀ i, i < w.heap.size → q i → ¬ S i) : DocVar w' b q las lat hd := by
  obtain ⟨lv, tv, hv, h1, h2, h3⟩ := h
  exact ⟨lv, tv, hv, h1.upd hu hb, h2.upd hu hS, h3⟩
theorem DocVar.grow {w w' : World} {b : Nat} {q : Nat → Prop} {las lat : List (List Int)} {hd : List Int} (h : DocVar w b q las lat hd) (hu : Grow w w') : DocVar w' b q las lat hd := h.upd (S := fun _ => False) hu.s (fun f => f) (fun _ _ _ f => f)

set_option maxRecDepth 8000 in
set_option maxHeartbeats 4000000 in
theorem qbarrier_any (p : Nat → Prop) (lv tv hv : Value) (las lat : List (List Int)) (hd : List Int) (w : World) (h : DocV p w lv tv hv las lat hd) (ok : DevOk las lat hd) (f t : Int) (hf : (Lit.int .i64 f).wf = true) (ht : (Lit.int .i64 t).wf = true) (hp : ∀ i, w.heap.size ≤ i → p i) :
    Calls Try.prog 33 #[.agg #[lv, tv, hv], .int .i64 f, .int .i64 t] w fun e w' => ∃ lv' tv' hv', e = .returned (.agg #[lv', tv', hv']) ∧ DocV p w' lv' tv' hv' (barL (las, lat) (laterL lat f t)).1 (barL (las, lat) (laterL lat f t)).2 hd ∧ Grow w w' := by
  have HQ : Hid (DocV (fun i => p i ∧ i ≠ w.heap.size ∧ i ≠ w.heap.size + 1) w lv tv hv las lat hd) := h.mono (fun i hi h => ⟨h, by omega, by omega⟩)
  have hq : ∀ i, w.heap.size + 2 ≤ i → (p i ∧ i ≠ w.heap.size ∧ i ≠ w.heap.size + 1) := fun i hi => ⟨hp i (by omega), by omega, by omega⟩
  obtain ⟨a, c, rfl, hc1, hc2⟩ := h.1.shape
  obtain ⟨a2, c2, rfl, hd1, hd2⟩ := h.2.1.shape
  obtain ⟨a3, c3, rfl⟩ := h.2.2.shape
  have hlb := ok.2.2.2.2.2
  have hll := ok.1
  unfold maxLen at hc2 hd2
  have HV : Hid (VarAt ((w.alloc (.cells #[.slice a las.length c, .slice a2 lat.length c2, .slice a3 hd.length c3] 31)).alloc (.cells #[.slice none 0 0, .slice none 0 0, .slice none 0 0] 31)) w.heap.size [.slice a las.length c, .slice a2 lat.length c2, .slice a3 hd.length c3] ∧ VarAt ((w.alloc (.cells #[.slice a las.length c, .slice a2 lat.length c2, .slice a3 hd.length c3] 31)).alloc (.cells #[.slice none 0 0, .slice none 0 0, .slice none 0 0] 31)) (w.heap.size + 1) [.slice none 0 0, .slice none 0 0, .slice none 0 0] ∧ Grow w ((w.alloc (.cells #[.slice a las.length c, .slice a2 lat.length c2, .slice a3 hd.length c3] 31)).alloc (.cells #[.slice none 0 0, .slice none 0 0, .slice none 0 0] 31))) :=
    ⟨(VarAt.new w [.slice a las.length c, .slice a2 lat.length c2, .slice a3 hd.length c3] 31).grow ((Grow.refl _).alloc _), VarAt.new2 w _ _ _, ((Grow.refl w).alloc _).alloc _⟩
  have hlt0 := fun w' (g : Grow w w') => qlater_any p _ _ _ las lat hd w' (h.grow g) ok f t hf ht
  have HN : Hid (laterL lat f t).Nodup := nodup_laterL lat f t
  have HI : Hid (∀ x ∈ laterL lat f t, x < lat.length) := fun x hx => (mem_laterL.1 hx).1
  have hlen : (laterL lat f t).length ≤ 1024 := by have h1 := laterL_length lat f t; omega
  generalize laterL lat f t = l at hlt0 HN HI hlen
  have HLL : Hid (lat.length = las.length ∧ las.length ≤ 1024) := ⟨hll, hlb⟩
  clear h ok hll hlb
  go_enter Try.func33, Try.ntmps33
  go_wp2_with fail
  refine (hlt0 _ HV.out.2.2).mono ?_
  rintro e w1 ⟨v1, rfl, ho1, hg1⟩
  generalize ((w.alloc (.cells #[.slice a las.length c, .slice a2 lat.length c2, .slice a3 hd.length c3] 31)).alloc (.cells #[.slice none 0 0, .slice none 0 0, .slice none 0 0] 31)) = w0 at HV ho1 hg1
  obtain ⟨a1, c1, rfl⟩ := ho1.shape
  have HS0 : Hid (w.heap.size + 2 ≤ w0.heap.size ∧ w0.heap.size ≤ w1.heap.size) := ⟨HV.out.2.1.lt, hg1.size⟩
  have HO : Hid (OwnV natV 0 (fun i => w.heap.size + 2 ≤ i) w1 (.slice a1 l.length c1) l ∧ Grow w w1) := ⟨ho1.mono (fun i _ hi => by have := HS0.out; omega), HV.out.2.2.trans hg1⟩
  have DV0 : Hid (DocVar w1 w.heap.size (fun i => p i ∧ i ≠ w.heap.size ∧ i ≠ w.heap.size + 1) las lat hd ∧ VarAt w1 (w.heap.size + 1) [.slice none 0 0, .slice none 0 0, .slice none 0 0]) := ⟨⟨_, _, _, HV.out.1.grow hg1, HQ.out.grow (HV.out.2.2.trans hg1), by omega⟩, HV.out.2.1.grow hg1⟩
  clear ho1 hg1 hlt0 hc1 hd1
  go_wp2
  go_loopg [8] l.length (fun k i wr => ∃ j : Nat, k = l.length - j ∧ j ≤ l.length ∧ i = .int .i64 j ∧ Hid (DocVar wr w.heap.size (fun i => p i ∧ i ≠ w.heap.size ∧ i ≠ w.heap.size + 1) (barL (las, lat) (l.take j)).1 (barL (las, lat) (l.take j)).2 hd ∧ VarAt wr (w.heap.size + 1) [.slice none 0 0, .slice none 0 0, .slice none 0 0] ∧ UpdS (fun i => i = w.heap.size ∨ w1.heap.size ≤ i) w1 wr))
  case atStart => exact ⟨0, rfl, Nat.zero_le _, rfl, DV0.out.1, DV0.out.2, UpdS.refl _ _⟩
  case round =>
    obtain ⟨j, hk, hj, rfl, HD⟩ := hrel
    by_cases hlt : j < l.length
    · have hlt' : (j : Int) < (l.length : Int) := by omega
      have hcw : UpdS (fun i => i = w.heap.size ∨ w1.heap.size ≤ i) w1 wr := HD.out.2.2
      obtain ⟨-, hlc, hcm⟩ := HO.out.1.rd.caps
      obtain ⟨b1, o1, rfl, hb1, hcell⟩ := HO.out.1.rd.addr (by omega)
      have hx0 := hcell j hlt
      have HB : Hid (w.heap.size + 2 ≤ b1) := hb1
      have hx : wr.cell? ⟨b1, o1 + j, none⟩ = some (natV (l.getD j 0)) := by
        have hlt1 : b1 < w1.heap.size := World.block_lt_of_cell? _ _ hx0
        rw [hcw.cell (p := ⟨b1, o1 + j, none⟩) hlt1 (by show ¬ (b1 = _ ∨ _ ≤ b1); omega)]; exact hx0
      have HX : Hid (j < l.length ∧ l.getD j 0 < (barL (las, lat) (l.take j)).2.length ∧ l.getD j 0 < (barL (las, lat) (l.take j)).1.length ∧ (barL (las, lat) (l.take j)).1.length ≤ 1024) := by
        have h1 := barL_len (l.take j) (las, lat)
        have h2 := HI.out _ (mem_getD hlt)
        have h3 := HLL.out
        refine ⟨hlt, ?_, ?_, ?_⟩
        · rw [h1.2]; exact h2
        · rw [h1.1]; show _ < las.length; omega
        · rw [h1.1]; exact h3.2
      have HLC : Hid ((barL (las, lat) (l.take j)).2.length ≤ 1024) := by
        have h1 := barL_len (l.take j) (las, lat)
        have h3 := HLL.out
        show (barL (las, lat) (l.take j)).2.length ≤ 1024
        rw [h1.2]; show lat.length ≤ 1024; omega
      have HT : Hid (barL (las, lat) (l.take (j + 1)) = stepB (barL (las, lat) (l.take j)) (l.getD j 0)) := by
        show barL (las, lat) (l.take (j + 1)) = _
        rw [take_snoc l 0 j hlt, barL_snoc]
      have HJ : Hid (j < l.length ∧ gk = l.length - j) := ⟨hlt, hk⟩
      have DVr : Hid (DocVar wr w.heap.size (fun i => p i ∧ i ≠ w.heap.size ∧ i ≠ w.heap.size + 1) (barL (las, lat) (l.take j)).1 (barL (las, lat) (l.take j)).2 hd ∧ wr.cell? ⟨b1, o1 + j, none⟩ = some (natV (l.getD j 0)) ∧ w.heap.size + 2 ≤ (wr).heap.size ∧ VarAt wr (w.heap.size + 1) [.slice none 0 0, .slice none 0 0, .slice none 0 0] ∧ UpdS (fun i => i = w.heap.size ∨ w1.heap.size ≤ i) w1 wr) :=
        ⟨HD.out.1, hx, by have h1 := HS0.out; have h2 := hcw.size; omega, HD.out.2.1, hcw⟩
      unfold maxLen at hcm
      clear hlt hk hx0 hcell hx hcw hb1 HD
      generalize l.getD j 0 = x at HX HT DVr
      generalize barL (las, lat) (l.take j) = C at HX HT DVr HLC
      obtain ⟨C1, C2⟩ := C
      have HT2 : Hid (barL (las, lat) (l.take (j + 1)) = (C1.set x (C2.getD x []), C2.set x [])) := HT.out
      have DV : Hid (DocVar wr w.heap.size (fun i => p i ∧ i ≠ w.heap.size ∧ i ≠ w.heap.size + 1) C1 C2 hd ∧ wr.cell? ⟨b1, o1 + j, none⟩ = some (natV x) ∧ w.heap.size + 2 ≤ (wr).heap.size ∧ VarAt wr (w.heap.size + 1) [.slice none 0 0, .slice none 0 0, .slice none 0 0] ∧ UpdS (fun i => i = w.heap.size ∨ w1.heap.size ≤ i) w1 wr) := DVr
      replace HX : Hid (j < l.length ∧ x < C2.length ∧ x < C1.length ∧ C1.length ≤ 1024) := HX
      replace HLC : Hid (C2.length ≤ 1024) := HLC
      have hc2l : (C2.length : Int) ≤ 1024 := by have := HLC.out; omega
      clear DVr HT
      obtain ⟨lv, tv, hv, hva, hdoc, hnb⟩ := DV.out.1
      obtain ⟨al, cl, rfl, hlc1, hlc2⟩ := hdoc.1.shape
      obtain ⟨at2, ct, rfl, htc1, htc2⟩ := hdoc.2.1.shape
      obtain ⟨b2, o2, ai, ci, rfl, hb2, hc2, hr2⟩ := hdoc.2.1.at HX.out.2.1
      unfold maxLen at hlc2 htc2
      have k0 : ∀ w', Grow wr.drew w' → w'.cell? ⟨w.heap.size, 0, none⟩ = some (.slice al C1.length cl) ∧ w'.cell? ⟨w.heap.size, 1, none⟩ = some (.slice (some ⟨b2, o2, none⟩) C2.length ct) ∧ w'.cell? ⟨b1, o1 + j, none⟩ = some (natV x) ∧ w'.cell? ⟨b2, o2 + x, none⟩ = some (.slice ai (C2.getD x []).length ci) := fun w' g => by
        have gg : Grow wr w' := (Grow.refl wr).drew.trans g
        obtain ⟨⟨x0, x1, x2⟩, -⟩ := (hva.grow gg).three
        exact ⟨x0, x1, by rw [Below.cell (p := ⟨b1, o1 + j, none⟩) gg (World.block_lt_of_cell? _ _ DV.out.2.1)]; exact DV.out.2.1, by rw [Below.cell (p := ⟨b2, o2 + x, none⟩) gg hb2]; exact hc2⟩
      have hxi : (x : Int) < (C2.length : Int) := by have := HX.out.2.1; omega
      have hwt := qwith_any (fun i => p i ∧ i ≠ w.heap.size ∧ i ≠ w.heap.size + 1) (.slice al C1.length cl) (.slice ai (C2.getD x []).length ci) C1 (C2.getD x []) x wr.drew (hdoc.1.grow (Grow.refl wr).drew) (hr2.grow (Grow.refl wr).drew) HX.out.2.2.1 HX.out.2.2.2 (fun i hi => hq i (by have h1 := hva.lt; have h2 : wr.drew.heap.size = wr.heap.size := rfl; have h3 := DV.out.2.2.1; omega))
      have hrl := hr2.len
      unfold maxLen at hrl
      have HDc : Hid (DocV (fun i => p i ∧ i ≠ w.heap.size ∧ i ≠ w.heap.size + 1) wr (.slice al C1.length cl) (.slice (some ⟨b2, o2, none⟩) C2.length ct) hv C1 C2 hd ∧ VarAt wr w.heap.size [.slice al C1.length cl, .slice (some ⟨b2, o2, none⟩) C2.length ct, hv]) := ⟨hdoc, hva⟩
      generalize (C2.getD x []).length = LR at k0 hwt hrl
      clear hva hdoc hc2 hr2
      go_wp2
      refine wp_region_last 16 (by kernel_rfl) [(0, false), (1, false), (2, false), (3, false), (4, false), (5, false), (6, false), (7, false), (8, false), (9, false), (10, false), (11, false), (12, false), (13, false), (14, true), (15, false)] (by kernel_rfl) (by kernel_rfl) rfl (fun _ _ d _ _ h => by cases d <;> exact h) ?_
      simp only [inOrder, List.filterMap_cons, List.filterMap_nil, List.getElem?_toArray, List.getElem?_cons_zero, List.getElem?_cons_succ, Option.map_some]
      repeat (first
        | (refine wpS_move rfl ?_; simp only [Act.eval, Act.put, Array.getD_eq_getD_getElem?, List.getElem?_toArray, List.getElem?_cons_zero, List.getElem?_cons_succ, Option.getD_some, List.setIfInBounds_toArray, List.set_cons_zero, List.set_cons_succ])
        | (refine wpS_assign rfl ?_; simp only [Act.eval, Act.put, Array.getD_eq_getD_getElem?, List.getElem?_toArray, List.getElem?_cons_zero, List.getElem?_cons_succ, Option.getD_some, List.setIfInBounds_toArray, List.set_cons_zero, List.set_cons_succ])
        | (refine wpS_read (v := ?_) rfl ?_ ?_; rotate_left; (focus (intro w' hG; obtain ⟨q0, q1, q2, q3⟩ := k0 w' hG; go_simp; try (with_reducible rfl))); simp only [Act.put, List.setIfInBounds_toArray, List.set_cons_zero, List.set_cons_succ])
        | (refine wpS_skip rfl ?_; simp only [Act.put, List.setIfInBounds_toArray, List.set_cons_zero, List.set_cons_succ]))
      refine wpS_call (f := ?_) (args := ?_) (by rfl) ?_ ?_
      rotate_left 2; focus (go_simp; constructor <;> with_reducible rfl)
      refine (hwt).mono ?_
      rintro e w2 ⟨v2, rfl, hr2, g2⟩
      refine ⟨v2, rfl, g2, ?_⟩
      simp only [Act.put, List.setIfInBounds_toArray, List.set_cons_zero, List.set_cons_succ]
      repeat (first
        | (refine wpS_move rfl ?_; simp only [Act.eval, Act.put, Array.getD_eq_getD_getElem?, List.getElem?_toArray, List.getElem?_cons_zero, List.getElem?_cons_succ, Option.getD_some, List.setIfInBounds_toArray, List.set_cons_zero, List.set_cons_succ])
        | (refine wpS_assign rfl ?_; simp only [Act.eval, Act.put, Array.getD_eq_getD_getElem?, List.getElem?_toArray, List.getElem?_cons_zero, List.getElem?_cons_succ, Option.getD_some, List.setIfInBounds_toArray, List.set_cons_zero, List.set_cons_succ])
        | (refine wpS_read (v := ?_) rfl ?_ ?_; rotate_left; (focus (intro w' hG; skip; go_simp; try (with_reducible rfl))); simp only [Act.put, List.setIfInBounds_toArray, List.set_cons_zero, List.set_cons_succ])
        | (refine wpS_skip rfl ?_; simp only [Act.put, List.setIfInBounds_toArray, List.set_cons_zero, List.set_cons_succ]))
      refine wpS_nil ?_
      have g02 : Grow wr w2 := (Grow.refl wr).drew.trans g2
      obtain ⟨a4, c4, rfl, -⟩ := hr2.shape
      obtain ⟨⟨x0, x1, x2⟩, f0, f1, f2⟩ := (HDc.out.2.grow g02).three
      have DV3 : Hid (DocVar (w2.setCell ⟨w.heap.size, 0, none⟩ (.slice a4 (C1.set x (C2.getD x [])).length c4)) w.heap.size (fun i => p i ∧ i ≠ w.heap.size ∧ i ≠ w.heap.size + 1) (C1.set x (C2.getD x [])) C2 hd ∧ (w2.setCell ⟨w.heap.size, 0, none⟩ (.slice a4 (C1.set x (C2.getD x [])).length c4)).cell? ⟨b1, o1 + j, none⟩ = some (natV x) ∧ w.heap.size + 2 ≤ ((w2.setCell ⟨w.heap.size, 0, none⟩ (.slice a4 (C1.set x (C2.getD x [])).length c4))).heap.size ∧ VarAt (w2.setCell ⟨w.heap.size, 0, none⟩ (.slice a4 (C1.set x (C2.getD x [])).length c4)) (w.heap.size + 1) [.slice none 0 0, .slice none 0 0, .slice none 0 0] ∧ UpdS (fun i => i = w.heap.size ∨ w1.heap.size ≤ i) w1 (w2.setCell ⟨w.heap.size, 0, none⟩ (.slice a4 (C1.set x (C2.getD x [])).length c4))) := by
        have hu := upd_one w2 w.heap.size 0 (.slice a4 (C1.set x (C2.getD x [])).length c4)
        refine ⟨⟨_, _, _, (HDc.out.2.grow g02).set 0 _, DocV.upd (S := fun k => k = w.heap.size) ⟨hr2, HDc.out.1.2.1.grow g02, HDc.out.1.2.2.grow g02⟩ hu (fun i _ hi e => hi.2.1 e), hnb⟩, ?_, ?_⟩
        · have hb := HB.out
          rw [hu.cell (p := ⟨b1, o1 + j, none⟩) (Nat.lt_of_lt_of_le (World.block_lt_of_cell? _ _ DV.out.2.1) g02.size) (by show ¬ b1 = _; omega), Below.cell (p := ⟨b1, o1 + j, none⟩) g02 (World.block_lt_of_cell? _ _ DV.out.2.1)]
          exact DV.out.2.1
        · exact ⟨by have h1 := DV.out.2.2.1; have h2 := g02.size; simp; omega, (DV.out.2.2.2.1.grow g02).upd hu (by omega), (DV.out.2.2.2.2.trans (g02.s)).trans (hu.mono (fun i hi => .inl hi))⟩
      generalize (C1.set x (C2.getD x [])).length = L4 at DV3
      refine last_store (w' := w2.setCell ⟨w.heap.size, 0, none⟩ (.slice a4 L4 c4)) rfl rfl (by go_simp) ?_
      simp only [Act.put, List.setIfInBounds_toArray, List.set_cons_zero, List.set_cons_succ]
      clear x0 x1 x2 f0 f1 f2 hr2 g2 g02 hwt k0 HDc hxi
      generalize w2.setCell ⟨w.heap.size, 0, none⟩ (.slice a4 L4 c4) = w3 at DV3 ⊢
      clear DV
      obtain ⟨lv, tv, hv, hva, hdoc, hnb⟩ := DV3.out.1
      obtain ⟨at2, ct, rfl, htc1, htc2⟩ := hdoc.2.1.shape
      unfold maxLen at htc2
      have k0 : ∀ w', Grow w3.drew w' → w'.cell? ⟨w.heap.size, 1, none⟩ = some (.slice at2 C2.length ct) ∧ w'.cell? ⟨b1, o1 + j, none⟩ = some (natV x) := fun w' g => by
        have gg : Grow w3 w' := (Grow.refl w3).drew.trans g
        obtain ⟨⟨x0, x1, x2⟩, -⟩ := (hva.grow gg).three
        exact ⟨x1, by rw [Below.cell (p := ⟨b1, o1 + j, none⟩) gg (World.block_lt_of_cell? _ _ DV3.out.2.1)]; exact DV3.out.2.1⟩
      have hwt := qwith_any (fun i => p i ∧ i ≠ w.heap.size ∧ i ≠ w.heap.size + 1) (.slice at2 C2.length ct) (.slice none 0 0) C2 [] x w3.drew (hdoc.2.1.grow (Grow.refl w3).drew) (RdV.nil _ _ _ _ _ _ (Nat.zero_le _)) HX.out.2.1 HLC.out (fun i hi => hq i (by have h1 := hva.lt; have h2 : w3.drew.heap.size = w3.heap.size := rfl; have h3 := DV3.out.2.2.1; omega))
      have HDc : Hid (DocV (fun i => p i ∧ i ≠ w.heap.size ∧ i ≠ w.heap.size + 1) w3 lv (.slice at2 C2.length ct) hv (C1.set x (C2.getD x [])) C2 hd ∧ VarAt w3 w.heap.size [lv, .slice at2 C2.length ct, hv]) := ⟨hdoc, hva⟩
      clear hva hdoc
      go_wp2
      refine wp_region_last 8 (by kernel_rfl) [(0, false), (1, false), (2, false), (3, false), (4, false), (5, false), (6, true), (7, false)] (by kernel_rfl) (by kernel_rfl) rfl (fun _ _ d _ _ h => by cases d <;> exact h) ?_
      simp only [inOrder, List.filterMap_cons, List.filterMap_nil, List.getElem?_toArray, List.getElem?_cons_zero, List.getElem?_cons_succ, Option.map_some]
      repeat (first
        | (refine wpS_move rfl ?_; simp only [Act.eval, Act.put, Array.getD_eq_getD_getElem?, List.getElem?_toArray, List.getElem?_cons_zero, List.getElem?_cons_succ, Option.getD_some, List.setIfInBounds_toArray, List.set_cons_zero, List.set_cons_succ])
        | (refine wpS_assign rfl ?_; simp only [Act.eval, Act.put, Array.getD_eq_getD_getElem?, List.getElem?_toArray, List.getElem?_cons_zero, List.getElem?_cons_succ, Option.getD_some, List.setIfInBounds_toArray, List.set_cons_zero, List.set_cons_succ])
        | (refine wpS_read (v := ?_) rfl ?_ ?_; rotate_left; (focus (intro w' hG; obtain ⟨q0, q1⟩ := k0 w' hG; go_simp; try (with_reducible rfl))); simp only [Act.put, List.setIfInBounds_toArray, List.set_cons_zero, List.set_cons_succ])
        | (refine wpS_skip rfl ?_; simp only [Act.put, List.setIfInBounds_toArray, List.set_cons_zero, List.set_cons_succ]))
      refine wpS_call (f := ?_) (args := ?_) (by rfl) ?_ ?_
      rotate_left 2; focus (go_simp; constructor <;> with_reducible rfl)
      refine (hwt).mono ?_
      rintro e w2 ⟨v2, rfl, hr2, g2⟩
      refine ⟨v2, rfl, g2, ?_⟩
      simp only [Act.put, List.setIfInBounds_toArray, List.set_cons_zero, List.set_cons_succ]
      repeat (first
        | (refine wpS_move rfl ?_; simp only [Act.eval, Act.put, Array.getD_eq_getD_getElem?, List.getElem?_toArray, List.getElem?_cons_zero, List.getElem?_cons_succ, Option.getD_some, List.setIfInBounds_toArray, List.set_cons_zero, List.set_cons_succ])
        | (refine wpS_assign rfl ?_; simp only [Act.eval, Act.put, Array.getD_eq_getD_getElem?, List.getElem?_toArray, List.getElem?_cons_zero, List.getElem?_cons_succ, Option.getD_some, List.setIfInBounds_toArray, List.set_cons_zero, List.set_cons_succ])
        | (refine wpS_read (v := ?_) rfl ?_ ?_; rotate_left; (focus (intro w' hG; skip; go_simp; try (with_reducible rfl))); simp only [Act.put, List.setIfInBounds_toArray, List.set_cons_zero, List.set_cons_succ])
        | (refine wpS_skip rfl ?_; simp only [Act.put, List.setIfInBounds_toArray, List.set_cons_zero, List.set_cons_succ]))
      refine wpS_nil ?_
      have g02 : Grow w3 w2 := (Grow.refl w3).drew.trans g2
      obtain ⟨a4, c4, rfl, -⟩ := hr2.shape
      obtain ⟨⟨x0, x1, x2⟩, f0, f1, f2⟩ := (HDc.out.2.grow g02).three
      have DV5 : Hid (DocVar (w2.setCell ⟨w.heap.size, 1, none⟩ (.slice a4 (C2.set x []).length c4)) w.heap.size (fun i => p i ∧ i ≠ w.heap.size ∧ i ≠ w.heap.size + 1) (C1.set x (C2.getD x [])) (C2.set x []) hd ∧ w.heap.size + 2 ≤ ((w2.setCell ⟨w.heap.size, 1, none⟩ (.slice a4 (C2.set x []).length c4))).heap.size ∧ VarAt (w2.setCell ⟨w.heap.size, 1, none⟩ (.slice a4 (C2.set x []).length c4)) (w.heap.size + 1) [.slice none 0 0, .slice none 0 0, .slice none 0 0] ∧ UpdS (fun i => i = w.heap.size ∨ w1.heap.size ≤ i) w1 (w2.setCell ⟨w.heap.size, 1, none⟩ (.slice a4 (C2.set x []).length c4))) := by
        have hu := upd_one w2 w.heap.size 1 (.slice a4 (C2.set x []).length c4)
        refine ⟨⟨_, _, _, (HDc.out.2.grow g02).set 1 _, DocV.upd (S := fun k => k = w.heap.size) ⟨HDc.out.1.1.grow g02, hr2, HDc.out.1.2.2.grow g02⟩ hu (fun i _ hi e => hi.2.1 e), hnb⟩, ?_⟩
        exact ⟨by have h1 := DV3.out.2.2.1; have h2 := g02.size; simp; omega, (DV3.out.2.2.2.1.grow g02).upd hu (by omega), (DV3.out.2.2.2.2.trans (g02.s)).trans (hu.mono (fun i hi => .inl hi))⟩
      generalize (C2.set x []).length = L4 at DV5
      refine last_store (w' := w2.setCell ⟨w.heap.size, 1, none⟩ (.slice a4 L4 c4)) rfl rfl (by go_simp) ?_
      simp only [Act.put, List.setIfInBounds_toArray, List.set_cons_zero, List.set_cons_succ]
      clear x0 x1 x2 f0 f1 f2 hr2 g2 g02 hwt k0 HDc
      generalize w2.setCell ⟨w.heap.size, 1, none⟩ (.slice a4 L4 c4) = w5 at DV5 ⊢
      clear DV3
      go_wp2
      go_roundg (l.length - (j + 1))
      case measure => have := HJ.out; omega
      case rel =>
        refine ⟨j + 1, rfl, HJ.out.1, by go_num, ?_⟩
        show DocVar _ _ _ _ _ _ ∧ _
        rw [HT2.out]
        exact ⟨DV5.out.1, DV5.out.2.2.1, DV5.out.2.2.2⟩
    · obtain rfl : j = l.length := by omega
      rw [List.take_length] at HD
      obtain ⟨⟨lv, tv, hv, hva, hdoc, hnb⟩, hvr, hu⟩ := HD.out
      obtain ⟨al, cl, rfl, -⟩ := hdoc.1.shape
      obtain ⟨at2, ct, rfl, -⟩ := hdoc.2.1.shape
      obtain ⟨ah, ch, rfl⟩ := hdoc.2.2.shape
      obtain ⟨⟨y0, y1, y2⟩, f0, f1, f2⟩ := hvr.three
      generalize (barL (las, lat) l).1.length = L1 at hva hdoc
      generalize (barL (las, lat) l).2.length = L2 at hva hdoc
      obtain ⟨⟨x0, x1, x2⟩, -⟩ := hva.three
      have HF : Hid (VarAt (((wr.setCell ⟨w.heap.size + 1, 0, none⟩ (.slice al L1 cl)).setCell ⟨w.heap.size + 1, 1, none⟩ (.slice at2 L2 ct)).setCell ⟨w.heap.size + 1, 2, none⟩ (.slice ah hd.length ch)) (w.heap.size + 1) [.slice al L1 cl, .slice at2 L2 ct, .slice ah hd.length ch] ∧ DocV p (((wr.setCell ⟨w.heap.size + 1, 0, none⟩ (.slice al L1 cl)).setCell ⟨w.heap.size + 1, 1, none⟩ (.slice at2 L2 ct)).setCell ⟨w.heap.size + 1, 2, none⟩ (.slice ah hd.length ch)) (.slice al L1 cl) (.slice at2 L2 ct) (.slice ah hd.length ch) (barL (las, lat) l).1 (barL (las, lat) l).2 hd ∧ Grow w (((wr.setCell ⟨w.heap.size + 1, 0, none⟩ (.slice al L1 cl)).setCell ⟨w.heap.size + 1, 1, none⟩ (.slice at2 L2 ct)).setCell ⟨w.heap.size + 1, 2, none⟩ (.slice ah hd.length ch))) := by
        have hu3 := upd_three wr (w.heap.size + 1) (.slice al L1 cl) (.slice at2 L2 ct) (.slice ah hd.length ch)
        refine ⟨((hvr.set 0 _).set 1 _).set 2 _, (hdoc.upd hu3 (fun i _ hi e => hi.2.2 e)).mono (fun i _ hi => hi.1), ?_⟩
        refine UpdS.new (UpdS.new HO.out.2 hu (fun i hi => by have := HO.out.2.size; omega)) hu3 (fun i hi => by omega)
      clear hva hdoc hnb hvr hu hlt hk
      go_wp2
      exact bodyPost_ret_by (results_cell rfl _ _ _ _ rfl (load_D _ _ _ _ _ HF.out.1)) rfl ⟨_, _, _, rfl, HF.out.2.1, HF.out.2.2⟩
end Go.Proofs.Ytpkoiogdkaklfaa
