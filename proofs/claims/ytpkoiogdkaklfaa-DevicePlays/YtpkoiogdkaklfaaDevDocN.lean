/-
  The walk of the document's New. Conditions: each theorem's own.
-/
import Derived.Test.YtpkoiogdkaklfaaDevDocB
import Derived.Test.YtpkoiogdkaklfaaMk16
namespace Go.Proofs.Ytpkoiogdkaklfaa
open Go.RowKit
set_option linter.unusedVariables false
set_option linter.unusedSimpArgs false

set_option maxRecDepth 8000 in
set_option maxHeartbeats 4000000 in
theorem qnew_any (p : Nat → Prop) (n : Nat) (w : World) (hn : n ≤ 1024) (hp : ∀ i, w.heap.size ≤ i → p i) :
    Calls Try.prog 11 #[.int .i64 n] w fun e w' => ∃ lv tv hv, e = .returned (.agg #[lv, tv, hv]) ∧ DocV p w' lv tv hv (List.replicate n zcell) (List.replicate n []) [] ∧ Grow w w' := by
  obtain ⟨i1, hi1, hy0, hy1, hy2⟩ := info_parts Try.infoBS
  have hn' : (n : Int) ≤ 1024 := by omega
  have HV : Hid (VarAt ((w.alloc (.cells #[.slice none 0 0, .slice none 0 0, .slice none 0 0] 31)).alloc (.cells #[.slice none 0 0, .slice none 0 0, .slice none 0 0] 31)) (w.heap.size + 1) [.slice none 0 0, .slice none 0 0, .slice none 0 0] ∧ VarAt ((w.alloc (.cells #[.slice none 0 0, .slice none 0 0, .slice none 0 0] 31)).alloc (.cells #[.slice none 0 0, .slice none 0 0, .slice none 0 0] 31)) w.heap.size [.slice none 0 0, .slice none 0 0, .slice none 0 0] ∧ OwnV slF sl0 (fun i => 0 ≠ 0 ∧ i = w.heap.size) ((w.alloc (.cells #[.slice none 0 0, .slice none 0 0, .slice none 0 0] 31)).alloc (.cells #[.slice none 0 0, .slice none 0 0, .slice none 0 0] 31)) (.slice none 0 0) ([] : List (Option Addr × Nat × Nat)) ∧ ([] : List (Option Addr × Nat × Nat)).length = 0 ∧ OwnV slF sl0 (fun i => 0 ≠ 0 ∧ i = w.heap.size) ((w.alloc (.cells #[.slice none 0 0, .slice none 0 0, .slice none 0 0] 31)).alloc (.cells #[.slice none 0 0, .slice none 0 0, .slice none 0 0] 31)) (.slice none 0 0) (List.replicate 0 sl0) ∧ (∀ i, i < 0 → RdV (Value.int .u8) 0 (fun b => w.heap.size + 2 ≤ b ∧ b ≠ w.heap.size ∧ b ≠ w.heap.size) ((w.alloc (.cells #[.slice none 0 0, .slice none 0 0, .slice none 0 0] 31)).alloc (.cells #[.slice none 0 0, .slice none 0 0, .slice none 0 0] 31)) (slF (([] : List (Option Addr × Nat × Nat)).getD i sl0)) zcell) ∧ (0 ≠ 0 → w.heap.size ≠ w.heap.size ∧ w.heap.size + 2 ≤ w.heap.size ∧ w.heap.size + 2 ≤ w.heap.size ∧ w.heap.size < ((w.alloc (.cells #[.slice none 0 0, .slice none 0 0, .slice none 0 0] 31)).alloc (.cells #[.slice none 0 0, .slice none 0 0, .slice none 0 0] 31)).heap.size ∧ w.heap.size < ((w.alloc (.cells #[.slice none 0 0, .slice none 0 0, .slice none 0 0] 31)).alloc (.cells #[.slice none 0 0, .slice none 0 0, .slice none 0 0] 31)).heap.size) ∧ Grow w ((w.alloc (.cells #[.slice none 0 0, .slice none 0 0, .slice none 0 0] 31)).alloc (.cells #[.slice none 0 0, .slice none 0 0, .slice none 0 0] 31))) :=
    ⟨VarAt.new2 w _ [.slice none 0 0, .slice none 0 0, .slice none 0 0] 31, (VarAt.new w [.slice none 0 0, .slice none 0 0, .slice none 0 0] 31).grow ((Grow.refl _).alloc _), OwnV.nil _ _ _ _ _, rfl, OwnV.nil _ _ _ _ _, fun i hi => absurd hi (Nat.not_lt_zero _), fun h => absurd rfl h, ((Grow.refl w).alloc _).alloc _⟩
  go_enter Try.func11, Try.ntmps11
  go_wp2
  go_loopg [4] n (fun k i wr => ∃ j : Nat, k = n - j ∧ j ≤ n ∧ i = .int .i64 j ∧ Hid (∃ gl gt lv tv, (j = 0 → gt = w.heap.size) ∧ ∃ ss, VarAt wr (w.heap.size + 1) [lv, tv, .slice none 0 0] ∧ VarAt wr w.heap.size [.slice none 0 0, .slice none 0 0, .slice none 0 0] ∧ OwnV slF sl0 (fun i => j ≠ 0 ∧ i = gl) wr (lv) ss ∧ ss.length = j ∧ OwnV slF sl0 (fun i => j ≠ 0 ∧ i = gt) wr (tv) (List.replicate j sl0) ∧ (∀ i, i < j → RdV (Value.int .u8) 0 (fun b => w.heap.size + 2 ≤ b ∧ b ≠ gl ∧ b ≠ gt) wr (slF (ss.getD i sl0)) zcell) ∧ (j ≠ 0 → gl ≠ gt ∧ w.heap.size + 2 ≤ gl ∧ w.heap.size + 2 ≤ gt ∧ gl < wr.heap.size ∧ gt < wr.heap.size) ∧ Grow w wr))
  case atStart => exact ⟨0, rfl, Nat.zero_le _, rfl, w.heap.size, w.heap.size, _, _, fun _ => rfl, _, HV.out⟩
  case round =>
    obtain ⟨j, hk, hj, rfl, HI⟩ := hrel
    by_cases hlt : j < n
    · have hlt' : (j : Int) < (n : Int) := by omega
      have HJ : Hid (j < n ∧ gk = n - j) := ⟨hlt, hk⟩
      obtain ⟨gl, gt, lv, tv, hgt0, ss, h1, h2, h3, h4, h5, h6, h7, h8⟩ := HI.out
      obtain ⟨al, cl, hlv⟩ := h3.shape
      obtain ⟨at2, ct, htv⟩ := h5.shape
      rw [List.length_replicate] at htv
      rw [h4] at hlv
      subst hlv htv
      have hd : Grow wr wr.drew := (Grow.refl wr).drew
      have hsz : w.heap.size + 2 ≤ wr.drew.heap.size := h1.lt
      -- the bytes
      obtain ⟨vm, wm, hm, hom, hgm⟩ := make16 wr.drew
      obtain ⟨am, cm, hvm⟩ := hom.shape
      rw [List.length_replicate] at hvm
      subst hvm
      have hput : Calls Try.prog 32 #[.slice am 16 cm] wm fun e w' => ∃ v', e = .returned v' ∧ Own .u8 wm.heap.size w' v' zcell ∧ Below wm.heap.size wm w' := rput_any _ (List.replicate 16 0) _ wm hom.rd (oct_repl 16) (by simp)
      have k0 : ∀ w', UpdS (fun i => w.heap.size + 2 ≤ i) wr.drew w' → w'.cell? ⟨w.heap.size + 1, 0, none⟩ = some (.slice al j cl) := fun w' g => ((VarAt.upd (h1.grow hd) g (by omega)).three).1.1
      have HS : Hid (VarAt wr (w.heap.size + 1) [.slice al j cl, .slice at2 j ct, .slice none 0 0] ∧ VarAt wr w.heap.size [.slice none 0 0, .slice none 0 0, .slice none 0 0] ∧ OwnV slF sl0 (fun i => j ≠ 0 ∧ i = gl) wr (.slice al j cl) ss ∧ ss.length = j ∧ OwnV slF sl0 (fun i => j ≠ 0 ∧ i = gt) wr (.slice at2 j ct) (List.replicate j sl0) ∧ (∀ i, i < j → RdV (Value.int .u8) 0 (fun b => w.heap.size + 2 ≤ b ∧ b ≠ gl ∧ b ≠ gt) wr (slF (ss.getD i sl0)) zcell) ∧ (j ≠ 0 → gl ≠ gt ∧ w.heap.size + 2 ≤ gl ∧ w.heap.size + 2 ≤ gt ∧ gl < wr.heap.size ∧ gt < wr.heap.size) ∧ Grow w wr) := ⟨h1, h2, h3, h4, h5, h6, h7, h8⟩
      have HG : Hid (j = 0 → gt = w.heap.size) := hgt0
      have hj1 : j ≤ 1024 := by omega
      clear hlt hk h1 h2 h3 h4 h5 h6 h7 h8 HI hgt0
      go_wp2
      refine wp_region_lastG (UpdS (fun i => w.heap.size + 2 ≤ i)) (UpdS.refl _) (fun _ _ _ => UpdS.trans) 7 (by kernel_rfl) [(0, false), (1, false), (2, true), (3, true), (4, true), (5, true), (6, false)] (by kernel_rfl) (by kernel_rfl) rfl (fun _ _ d _ _ h => by cases d <;> exact h) ?_
      simp only [inOrder, List.filterMap_cons, List.filterMap_nil, List.getElem?_toArray, List.getElem?_cons_zero, List.getElem?_cons_succ, Option.map_some]
      repeat (first
        | (refine wpS_move rfl ?_; simp only [Act.eval, Act.put, Array.getD_eq_getD_getElem?, List.getElem?_toArray, List.getElem?_cons_zero, List.getElem?_cons_succ, Option.getD_some, List.setIfInBounds_toArray, List.set_cons_zero, List.set_cons_succ])
        | (refine wpS_assign rfl ?_; simp only [Act.eval, Act.put, Array.getD_eq_getD_getElem?, List.getElem?_toArray, List.getElem?_cons_zero, List.getElem?_cons_succ, Option.getD_some, List.setIfInBounds_toArray, List.set_cons_zero, List.set_cons_succ])
        | (refine wpS_read (v := ?_) rfl ?_ ?_; rotate_left; (focus (intro w' hG; have q0 := k0 w' hG; go_simp; try (with_reducible rfl))); simp only [Act.put, List.setIfInBounds_toArray, List.set_cons_zero, List.set_cons_succ])
        | (refine wpS_skip rfl ?_; simp only [Act.put, List.setIfInBounds_toArray, List.set_cons_zero, List.set_cons_succ]))
      refine wpS_act (v := .slice am 16 cm) (w' := wm) (by rfl) (by simp [execOp, Act.eval, hm, Result.andThen]) hgm.s ?_
      simp only [Act.put, List.setIfInBounds_toArray, List.set_cons_zero, List.set_cons_succ]
      refine wpS_call (f := ?_) (args := ?_) (by rfl) ?_ ?_
      rotate_left 2; focus (go_simp; constructor <;> with_reducible rfl)
      refine (hput).mono ?_
      rintro e wp ⟨vp, rfl, hop, hgp⟩
      refine ⟨vp, rfl, Grow.s hgp, ?_⟩
      simp only [Act.put, List.setIfInBounds_toArray, List.set_cons_zero, List.set_cons_succ]
      obtain ⟨ap, cp, hvp⟩ := hop.shape
      rw [zcell_length] at hvp
      subst hvp
      refine wpS_act (v := .slice (some ⟨wp.heap.size, 0, none⟩) 1 1) (w' := wp.alloc (.cells #[.slice ap 20 cp] 29)) (by rfl) (by go_simp) (((Grow.refl wp).alloc _).s) ?_
      simp only [Act.put, List.setIfInBounds_toArray, List.set_cons_zero, List.set_cons_succ]
      have gdp : Grow wr wp := (hd.trans hgm).trans hgp
      have gda : Grow wr (wp.alloc (.cells #[.slice ap 20 cp] 29)) := gdp.alloc _
      have hL := HS.out.2.2.1.grow gda
      have hsl : ss.length = j := HS.out.2.2.2.1
      obtain ⟨v5, w5, hrun, ho5, hu5⟩ := run_appV (P := Try.prog) (f := slF) (d := sl0) (ys := [(ap, 20, cp)]) 28 28 28 i1 (.slice none 0 0) 24 Try.underlying28 hi1 hy0 hy1 hy2 rfl hL (Src.oneV (w := wp) Try.underlying28 slF (ap, 20, cp) rfl 29) (by simp only [maxLen, List.length_singleton]; omega) (by simp only [List.length_singleton]; omega)
      have hu5' : UpdS (fun i => w.heap.size + 2 ≤ i) (wp.alloc (.cells #[.slice ap 20 cp] 29)) w5 := hu5.mono (fun i hi => by have := HS.out.2.2.2.2.2.2.1 hi.1; omega)
      refine wpS_act (v := v5) (w' := w5) rfl (exec_app rfl rfl rfl hrun) hu5' ?_
      obtain ⟨a5, c5, hv5⟩ := ho5.shape
      rw [List.length_append, List.length_singleton, hsl] at hv5
      subst hv5
      simp only [Act.put, List.setIfInBounds_toArray, List.set_cons_zero, List.set_cons_succ]
      repeat (first
        | (refine wpS_move rfl ?_; simp only [Act.eval, Act.put, Array.getD_eq_getD_getElem?, List.getElem?_toArray, List.getElem?_cons_zero, List.getElem?_cons_succ, Option.getD_some, List.setIfInBounds_toArray, List.set_cons_zero, List.set_cons_succ])
        | (refine wpS_assign rfl ?_; simp only [Act.eval, Act.put, Array.getD_eq_getD_getElem?, List.getElem?_toArray, List.getElem?_cons_zero, List.getElem?_cons_succ, Option.getD_some, List.setIfInBounds_toArray, List.set_cons_zero, List.set_cons_succ])
        | (refine wpS_read (v := ?_) rfl ?_ ?_; rotate_left; (focus (intro w' hG; skip; go_simp; try (with_reducible rfl))); simp only [Act.put, List.setIfInBounds_toArray, List.set_cons_zero, List.set_cons_succ])
        | (refine wpS_skip rfl ?_; simp only [Act.put, List.setIfInBounds_toArray, List.set_cons_zero, List.set_cons_succ]))
      refine wpS_nil ?_
      have HM : Hid (∃ gl' ss', VarAt (w5.setCell ⟨w.heap.size + 1, 0, none⟩ (.slice a5 (j + 1) c5)) (w.heap.size + 1) [.slice a5 (j + 1) c5, .slice at2 j ct, .slice none 0 0] ∧ VarAt (w5.setCell ⟨w.heap.size + 1, 0, none⟩ (.slice a5 (j + 1) c5)) w.heap.size [.slice none 0 0, .slice none 0 0, .slice none 0 0] ∧ OwnV slF sl0 (fun i => i = gl') (w5.setCell ⟨w.heap.size + 1, 0, none⟩ (.slice a5 (j + 1) c5)) (.slice a5 (j + 1) c5) ss' ∧ ss'.length = j + 1 ∧ OwnV slF sl0 (fun i => j ≠ 0 ∧ i = gt) (w5.setCell ⟨w.heap.size + 1, 0, none⟩ (.slice a5 (j + 1) c5)) (.slice at2 j ct) (List.replicate j sl0) ∧ (∀ i, i < j + 1 → RdV (Value.int .u8) 0 (fun b => w.heap.size + 2 ≤ b ∧ b ≠ gl' ∧ b ≠ gt) (w5.setCell ⟨w.heap.size + 1, 0, none⟩ (.slice a5 (j + 1) c5)) (slF (ss'.getD i sl0)) zcell) ∧ (w.heap.size + 2 ≤ gl' ∧ gl' < (w5.setCell ⟨w.heap.size + 1, 0, none⟩ (.slice a5 (j + 1) c5)).heap.size ∧ (j ≠ 0 → gl' ≠ gt ∧ w.heap.size + 2 ≤ gt ∧ gt < (w5.setCell ⟨w.heap.size + 1, 0, none⟩ (.slice a5 (j + 1) c5)).heap.size) ∧ (j = 0 → gt = w.heap.size)) ∧ Grow w (w5.setCell ⟨w.heap.size + 1, 0, none⟩ (.slice a5 (j + 1) c5))) := by
        obtain ⟨h1, h2, h3, h4, h5, h6, h7, h8⟩ := HS.out
        have hsz0 : w.heap.size + 2 ≤ wr.heap.size := h1.lt
        have hszp : wr.heap.size ≤ wp.heap.size := gdp.size
        have hszm : wr.heap.size ≤ wm.heap.size := hgm.size
        have hszmp : wm.heap.size ≤ wp.heap.size := hgp.size
        have hsz5 : wp.heap.size + 1 ≤ w5.heap.size := by have := hu5.size; rwa [World.size_alloc] at this
        obtain ⟨g', hg', hgg⟩ := ho5.pick (wp.heap.size + 1)
        have hgc : (g' = wp.heap.size + 1 ∨ (j ≠ 0 ∧ g' = gl)) := by
          rcases hgg with e | ⟨e | e, _⟩
          · exact .inl e
          · exact .inr e
          · rw [World.size_alloc] at e; exact .inl e
        have hlt5 : g' < w5.heap.size := by
          rcases hg' with ⟨e, _⟩ | ⟨g, o, c, e, hge, h0, _, _, _, ht⟩
          · simp at e
          · have := lt_of_some (ht 0 h0).1
            have hge' : g = g' := hge
            omega
        have hu6 := upd_one w5 (w.heap.size + 1) 0 (.slice a5 (j + 1) c5)
        have hgl : g' ≠ gt ∨ j = 0 := by
          rcases hgc with e | e
          · by_cases hj0 : j = 0
            · exact .inr hj0
            · have := h7 hj0; exact .inl (by omega)
          · exact .inl (by have := h7 e.1; omega)
        have hgtb : gt ≠ g' := by
          by_cases hj0 : j = 0
          · have := HG.out hj0
            rcases hgc with e | e
            · omega
            · exact absurd hj0 e.1
          · rcases hgc with e | e
            · have := h7 hj0; omega
            · have := h7 hj0; omega
        have hbw : w.heap.size + 2 ≤ g' := by
          rcases hgc with e | e
          · omega
          · have := h7 e.1; omega
        refine ⟨g', ss ++ [(ap, 20, cp)], ?_, ?_, ?_, ?_, ?_, ?_, ⟨hbw, ?_, ?_, HG.out⟩, ?_⟩
        · exact (VarAt.upd (h1.grow gda) hu5' (by omega)).set 0 _
        · exact ((h2.grow gda).upd hu5' (by omega)).upd hu6 (by omega)
        · exact hg'.upd hu6 (fun i _ hi => by omega)
        · simp [h4]
        · refine ((h5.grow gda).upd hu5 (fun i _ hi hh => ?_)).upd hu6 (fun i _ hi => ?_)
          · have := h7 hi.1; omega
          · have := h7 hi.1; omega
        · intro i hi
          have hS5 : ∀ (b : Nat), b ≠ gl → ¬ (j ≠ 0 ∧ b = gl) := fun b hb hh => hb hh.2
          by_cases hij : i < j
          · have e : (ss ++ [(ap, 20, cp)]).getD i sl0 = ss.getD i sl0 := by simp [List.getD, List.getElem?_append_left (show i < ss.length by omega)]
            rw [e]
            have hlt := h6 i hij
            have hlt2 : RdV (Value.int .u8) 0 (fun b => b < wr.heap.size ∧ w.heap.size + 2 ≤ b ∧ b ≠ gl ∧ b ≠ gt) wr (slF (ss.getD i sl0)) zcell := hlt.mono (fun b hb hh => ⟨hb, hh⟩)
            refine (((hlt2.grow gda).upd hu5 (fun b _ hb => hS5 b hb.2.2.1)).upd hu6 (fun b _ hb => by omega)).mono (fun b _ hb => ⟨hb.2.1, ?_, hb.2.2.2⟩)
            rcases hgc with e' | e'
            · omega
            · rw [e'.2]; exact hb.2.2.1
          · have e : (ss ++ [(ap, 20, cp)]).getD i sl0 = (ap, 20, cp) := by
              obtain rfl : i = ss.length := by omega
              simp [List.getD]
            rw [e]
            have hr : RdV (Value.int .u8) 0 (fun b => wm.heap.size ≤ b ∧ b < wp.heap.size) wp (slF (ap, 20, cp)) zcell := hop.v.rd.mono (fun b hb hh => ⟨hh, hb⟩)
            refine (((hr.grow ((Grow.refl wp).alloc _)).upd hu5 (fun b _ hb hh => ?_)).upd hu6 (fun b _ hb => ?_)).mono (fun b _ hb => ⟨?_, ?_, ?_⟩)
            · have := h7 hh.1; omega
            · omega
            · omega
            · rcases hgc with e' | e'
              · omega
              · have := h7 e'.1; omega
            · by_cases hj0 : j = 0
              · have := HG.out hj0; omega
              · have := h7 hj0; omega
        · have := hu6.size; omega
        · intro hj0
          have := h7 hj0
          have h9 := hu6.size
          exact ⟨by omega, by omega, by omega⟩
        · have g1 : Grow w w5 := UpdS.new (h8.trans gda) hu5' (fun i hi => by omega)
          exact UpdS.new g1 hu6 (fun i hi => by omega)
      obtain ⟨⟨x0, x1, x2⟩, f0, f1, f2⟩ := (VarAt.upd (HS.out.1.grow gda) hu5' (by omega)).three
      refine last_store (w' := w5.setCell ⟨w.heap.size + 1, 0, none⟩ (.slice a5 (j + 1) c5)) rfl rfl (by go_simp) ?_
      simp only [Act.put, List.setIfInBounds_toArray, List.set_cons_zero, List.set_cons_succ]
      clear x0 x1 x2 f0 f1 f2 ho5 hu5 hu5' hrun hL hsl gda gdp hop hgp hput hom hgm hm k0 hd hsz HS HG
      generalize w5.setCell ⟨w.heap.size + 1, 0, none⟩ (.slice a5 (j + 1) c5) = w6 at HM ⊢
      obtain ⟨gl2, ss2, r1, r2, r3, r4, r5, r6, r7, r8⟩ := HM.out
      obtain ⟨⟨x0, x1, x2⟩, f0, f1, f2⟩ := r1.three
      have hT := r5.grow ((Grow.refl w6).alloc (.cells #[.slice none 0 0] 29))
      have HS6 : Hid (VarAt w6 (w.heap.size + 1) [.slice a5 (j + 1) c5, .slice at2 j ct, .slice none 0 0] ∧ VarAt w6 w.heap.size [.slice none 0 0, .slice none 0 0, .slice none 0 0] ∧ OwnV slF sl0 (fun i => i = gl2) w6 (.slice a5 (j + 1) c5) ss2 ∧ ss2.length = j + 1 ∧ OwnV slF sl0 (fun i => j ≠ 0 ∧ i = gt) w6 (.slice at2 j ct) (List.replicate j sl0) ∧ (∀ i, i < j + 1 → RdV (Value.int .u8) 0 (fun b => w.heap.size + 2 ≤ b ∧ b ≠ gl2 ∧ b ≠ gt) w6 (slF (ss2.getD i sl0)) zcell) ∧ (w.heap.size + 2 ≤ gl2 ∧ gl2 < w6.heap.size ∧ (j ≠ 0 → gl2 ≠ gt ∧ w.heap.size + 2 ≤ gt ∧ gt < w6.heap.size) ∧ (j = 0 → gt = w.heap.size)) ∧ Grow w w6) := ⟨r1, r2, r3, r4, r5, r6, r7, r8⟩
      clear r1 r2 r3 r4 r5 r6 r7 r8 HM
      go_wp2_with (at_builtin; refine wpList_appV (f := slF) (d := sl0) rfl (.tmp 18) (.tmp 19) 28 28 rfl i1 (.slice none 0 0) 24 Try.underlying28 hi1 hy0 hy1 hy2 rfl rfl rfl hT (Src.oneV (w := w6) Try.underlying28 slF sl0 rfl 29) (by simp only [maxLen, List.length_singleton, List.length_replicate]; omega) (by simp only [List.length_singleton, List.length_replicate]; omega) ?_)
      intro v7 w7 ho7 hu7
      have HN : Hid (∃ gt', VarAt (w7.setCell ⟨w.heap.size + 1, 1, none⟩ v7) (w.heap.size + 1) [.slice a5 (j + 1) c5, v7, .slice none 0 0] ∧ VarAt (w7.setCell ⟨w.heap.size + 1, 1, none⟩ v7) w.heap.size [.slice none 0 0, .slice none 0 0, .slice none 0 0] ∧ OwnV slF sl0 (fun i => (j + 1) ≠ 0 ∧ i = gl2) (w7.setCell ⟨w.heap.size + 1, 1, none⟩ v7) (.slice a5 (j + 1) c5) ss2 ∧ ss2.length = (j + 1) ∧ OwnV slF sl0 (fun i => (j + 1) ≠ 0 ∧ i = gt') (w7.setCell ⟨w.heap.size + 1, 1, none⟩ v7) (v7) (List.replicate (j + 1) sl0) ∧ (∀ i, i < (j + 1) → RdV (Value.int .u8) 0 (fun b => w.heap.size + 2 ≤ b ∧ b ≠ gl2 ∧ b ≠ gt') (w7.setCell ⟨w.heap.size + 1, 1, none⟩ v7) (slF (ss2.getD i sl0)) zcell) ∧ ((j + 1) ≠ 0 → gl2 ≠ gt' ∧ w.heap.size + 2 ≤ gl2 ∧ w.heap.size + 2 ≤ gt' ∧ gl2 < (w7.setCell ⟨w.heap.size + 1, 1, none⟩ v7).heap.size ∧ gt' < (w7.setCell ⟨w.heap.size + 1, 1, none⟩ v7).heap.size) ∧ Grow w (w7.setCell ⟨w.heap.size + 1, 1, none⟩ v7)) := by
        obtain ⟨h1, h2, h3, h4, h5, h6, ⟨h7a, h7b, h7c, h7d⟩, h8⟩ := HS6.out
        have hsz0 : w.heap.size + 2 ≤ w6.heap.size := h1.lt
        have hga : Grow w6 (w6.alloc (.cells #[.slice none 0 0] 29)) := (Grow.refl w6).alloc _
        have hsz7 : w6.heap.size + 1 ≤ w7.heap.size := by have := hu7.size; rwa [World.size_alloc] at this
        obtain ⟨g', hg', hgg⟩ := ho7.pick (w6.heap.size + 1)
        have hgc : (g' = w6.heap.size + 1 ∨ (j ≠ 0 ∧ g' = gt)) := by
          rcases hgg with e | ⟨e | e, _⟩
          · exact .inl e
          · exact .inr e
          · first
              | exact .inl e
              | (rw [World.size_alloc] at e; exact .inl e)
        have hlt7 : g' < w7.heap.size := by
          rcases hg' with ⟨e, _⟩ | ⟨g, o, c, e, hge, h0, _, _, _, ht⟩
          · simp at e
          · have := lt_of_some (ht 0 h0).1
            have hge' : g = g' := hge
            omega
        have hu8 := upd_one w7 (w.heap.size + 1) 1 v7
        have hub : UpdS (fun i => w.heap.size + 2 ≤ i) (w6.alloc (.cells #[.slice none 0 0] 29)) w7 := hu7.mono (fun i hi => by have := h7c hi.1; omega)
        have hbw : w.heap.size + 2 ≤ g' := by
          rcases hgc with e | e
          · omega
          · have := h7c e.1; omega
        have hne : gl2 ≠ g' := by
          rcases hgc with e | e
          · omega
          · have := h7c e.1; omega
        refine ⟨g', ?_, ?_, ?_, h4, ?_, ?_, ?_, ?_⟩
        · exact (VarAt.upd (h1.grow hga) hub (by omega)).set 1 _
        · exact ((h2.grow hga).upd hub (by omega)).upd hu8 (by omega)
        · refine (((h3.grow hga).upd hu7 (fun i _ hi hh => ?_)).upd hu8 (fun i _ hi => ?_)).mono (fun i _ hi => ⟨by omega, hi⟩)
          · have := h7c hh.1; omega
          · omega
        · have e : List.replicate (j + 1) sl0 = List.replicate j sl0 ++ [sl0] := by rw [List.replicate_succ']
          rw [e]
          exact (hg'.upd hu8 (fun i _ hi => by omega)).mono (fun i _ hi => ⟨by omega, hi⟩)
        · intro i hi
          have hlt := (h6 i hi).mono (q := fun b => b < w6.heap.size ∧ w.heap.size + 2 ≤ b ∧ b ≠ gl2 ∧ b ≠ gt) (fun b hb hh => ⟨hb, hh⟩)
          refine (((hlt.grow hga).upd hu7 (fun b _ hb hh => hb.2.2.2 hh.2)).upd hu8 (fun b _ hb => by omega)).mono (fun b _ hb => ⟨hb.2.1, hb.2.2.1, ?_⟩)
          rcases hgc with e' | e'
          · omega
          · rw [e'.2]; exact hb.2.2.2
        · intro _
          have := hu8.size
          exact ⟨hne, h7a, hbw, by omega, by omega⟩
        · have g1 : Grow w w7 := UpdS.new (h8.trans hga) hub (fun i hi => by omega)
          exact UpdS.new g1 hu8 (fun i hi => by omega)
      have hub : UpdS (fun i => w.heap.size + 2 ≤ i) (w6.alloc (.cells #[.slice none 0 0] 29)) w7 := hu7.mono (fun i hi => by have := HS6.out.2.2.2.2.2.2.1.2.2.1 hi.1; omega)
      obtain ⟨⟨x0', x1', x2'⟩, f0', f1', f2'⟩ := (VarAt.upd (HS6.out.1.grow ((Grow.refl w6).alloc (.cells #[.slice none 0 0] 29))) hub (by omega)).three
      obtain ⟨a7, c7, hv7⟩ := ho7.shape
      rw [List.length_append, List.length_singleton, List.length_replicate] at hv7
      subst hv7
      clear ho7 hu7 hT hub x0 x1 x2 f0 f1 f2
      go_wp2
      go_roundg (n - (j + 1))
      case measure => have := HJ.out; omega
      case rel =>
        refine ⟨j + 1, rfl, HJ.out.1, by go_num, ?_⟩
        obtain ⟨gt', hh⟩ := HN.out
        exact ⟨gl2, gt', _, _, fun h => by omega, ss2, hh⟩
    · obtain rfl : j = n := by omega
      obtain ⟨gl, gt, lv, tv, hgt0, ss, h1, h2, h3, h4, h5, h6, h7, h8⟩ := HI.out
      obtain ⟨al, cl, hlv⟩ := h3.shape
      obtain ⟨at2, ct, htv⟩ := h5.shape
      rw [List.length_replicate] at htv
      rw [h4] at hlv
      subst hlv htv
      obtain ⟨⟨x0, x1, x2⟩, -⟩ := h1.three
      obtain ⟨⟨y0, y1, y2⟩, f0, f1, f2⟩ := h2.three
      have hu3 := upd_three wr w.heap.size (.slice al j cl) (.slice at2 j ct) (.slice none 0 0)
      have HF : Hid (VarAt (((wr.setCell ⟨w.heap.size, 0, none⟩ (.slice al j cl)).setCell ⟨w.heap.size, 1, none⟩ (.slice at2 j ct)).setCell ⟨w.heap.size, 2, none⟩ (.slice none 0 0)) w.heap.size [.slice al j cl, .slice at2 j ct, .slice none 0 0] ∧ DocV p (((wr.setCell ⟨w.heap.size, 0, none⟩ (.slice al j cl)).setCell ⟨w.heap.size, 1, none⟩ (.slice at2 j ct)).setCell ⟨w.heap.size, 2, none⟩ (.slice none 0 0)) (.slice al j cl) (.slice at2 j ct) (.slice none 0 0) (List.replicate j zcell) (List.replicate j []) [] ∧ Grow w (((wr.setCell ⟨w.heap.size, 0, none⟩ (.slice al j cl)).setCell ⟨w.heap.size, 1, none⟩ (.slice at2 j ct)).setCell ⟨w.heap.size, 2, none⟩ (.slice none 0 0))) := by
        refine ⟨((h2.set 0 _).set 1 _).set 2 _, ⟨⟨ss, ?_, by simp [h4], fun i hi => ?_⟩, ⟨List.replicate j sl0, ?_, by simp, fun i hi => ?_⟩, RdV.nil _ _ _ _ _ _ (Nat.zero_le _)⟩, UpdS.new h8 hu3 (fun i hi => by omega)⟩
        · refine (h3.rd.upd hu3 (fun i _ hi => ?_)).mono (fun i _ hi => hp i ?_)
          · have := h7 hi.1; omega
          · have := h7 hi.1; omega
        · rw [List.length_replicate] at hi
          have e : (List.replicate j zcell).getD i [] = zcell := by simp [List.getD, hi]
          rw [e]
          exact ((h6 i hi).upd hu3 (fun b _ hb => by omega)).mono (fun b hb hh => hp b (by omega))
        · refine (h5.rd.upd hu3 (fun i _ hi => ?_)).mono (fun i _ hi => hp i ?_)
          · have := h7 hi.1; omega
          · have := h7 hi.1; omega
        · rw [List.length_replicate] at hi
          have e : (List.replicate j ([] : List Int)).getD i [] = [] := by simp only [List.getD, List.getElem?_replicate]; split <;> rfl
          have e2 : (List.replicate j sl0).getD i sl0 = sl0 := by simp [List.getD, hi]
          rw [e, e2]
          exact RdV.nil _ _ _ _ _ _ (Nat.zero_le _)
      clear h1 h2 h3 h4 h5 h6 h7 h8 hu3 HI hlt hk hgt0
      go_wp2
      exact bodyPost_ret_by (results_cell rfl _ _ _ _ rfl (load_D _ _ _ _ _ HF.out.1)) rfl ⟨_, _, _, rfl, HF.out.2.1, HF.out.2.2⟩
end Go.Proofs.Ytpkoiogdkaklfaa
