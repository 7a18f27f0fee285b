/-
  The walk of a search, of Turn and of Rounds. Conditions: each theorem's own.
-/
import Derived.Test.YtabhbeknpchpkaaClkLook
import Derived.Test.YtabhbeknpchpkaaVars
import Derived.Deep.LoopGhost
namespace Go.Proofs.Ytabhbeknpchpkaa
open Go.RowKit
set_option linter.unusedVariables false
set_option linter.unusedSimpArgs false


theorem own_block {p : Nat → Prop} {w : World} {v : Value} {l : List Fl} (h : OwnF p w v l) (h0 : 0 < l.length) : ∃ g, p g ∧ g < w.heap.size ∧ OwnF (fun i => i = g) w v l := by
  rcases h with ⟨rfl, _⟩ | ⟨g, o, c, rfl, hb, hlt, r⟩
  · exact absurd h0 (Nat.lt_irrefl _)
  · exact ⟨g, hb, hlt, .inr ⟨g, o, c, rfl, rfl, hlt, r⟩⟩

/-- a search, behind k looks -/
def SrAt (w wr : World) (bn ba bk g : Nat) (v : Value) (L L' : List Fl) (h k : Nat) : Prop :=
  VarAt wr bn [v] ∧ VarAt wr ba [.int .i64 (((h + k) % L.length : Nat) : Int)] ∧ VarAt wr bk [.int .i64 k] ∧ OwnF (fun i => i = g) wr v L' ∧ L'.length = L.length ∧ k ≤ 2 * L.length ∧ scn h (2 * L.length - k) k L' = trn L h ∧ Grow w wr ∧ w.heap.size ≤ g ∧ g < bn ∧ bn < ba ∧ ba < bk

theorem ret_three {x y x' y' : Int} {v : Value} (h1 : x = x') (h2 : y = y') : Ending.returned (.tuple #[.int .i64 x, .int .i64 y, v]) = .returned (.tuple #[.int .i64 x', .int .i64 y', v]) := by rw [h1, h2]
theorem mod_next (h k n : Nat) : ((h + k) % n + 1) % n = (h + (k + 1)) % n := by rw [Nat.mod_add_mod, Nat.add_assoc]

theorem SrAt.start {w w1 : World} {v : Value} {L : List Fl} {h g : Nat} (hh : h < L.length) (ho : OwnF (fun i => i = g) w1 v L) (hg : Grow w w1) (h1 : w.heap.size ≤ g) (h2 : g < w1.heap.size) :
    SrAt w (((w1.alloc (.cells #[v] 22)).alloc (.cells #[.int .i64 h] 3)).alloc (.cells #[.int .i64 0] 3)) w1.heap.size (w1.heap.size + 1) (w1.heap.size + 1 + 1) g v L L h 0 := by
  have g1 : Grow w1 (w1.alloc (.cells #[v] 22)) := (Grow.refl _).alloc _
  have g2 : Grow (w1.alloc (.cells #[v] 22)) ((w1.alloc (.cells #[v] 22)).alloc (.cells #[.int .i64 h] 3)) := (Grow.refl _).alloc _
  have g3 : Grow ((w1.alloc (.cells #[v] 22)).alloc (.cells #[.int .i64 h] 3)) (((w1.alloc (.cells #[v] 22)).alloc (.cells #[.int .i64 h] 3)).alloc (.cells #[.int .i64 0] 3)) := (Grow.refl _).alloc _
  have v1 := VarAt.new w1 [v] 22
  have v2 := VarAt.new (w1.alloc (.cells #[v] 22)) [.int .i64 h] 3
  have v3 := VarAt.new ((w1.alloc (.cells #[v] 22)).alloc (.cells #[.int .i64 h] 3)) [.int .i64 0] 3
  rw [World.size_alloc] at v2
  rw [World.size_alloc, World.size_alloc] at v3
  refine ⟨v1.grow (g2.trans g3), ?_, v3, OwnS.grow ho (g1.trans (g2.trans g3)), rfl, Nat.zero_le _, rfl, hg.trans (g1.trans (g2.trans g3)), h1, h2, by omega, by omega⟩
  have e : (h + 0) % L.length = h := by rw [Nat.add_zero, Nat.mod_eq_of_lt hh]
  rw [e]
  exact v2.grow g3

/-- a look that finds one -/
theorem SrAt.hit {w wr : World} {bn ba bk g : Nat} {v : Value} {L L' : List Fl} {h k z : Nat} (s : SrAt w wr bn ba bk g v L L' h k) (hh : h < L.length) (hk : k < 2 * L.length) (hz : z = (h + k) % L.length) (hx : (L'.getD z Fl.zero).hit = true) :
    L'.set z (L'.getD z Fl.zero).pass = L' ∧ trn L h = (k + 1, L') ∧ vic L h = z := by
  obtain ⟨_, _, _, _, hl, _, hs, _⟩ := s
  have hlt : z < L'.length := by rw [hl, hz]; exact Nat.mod_lt _ (by omega)
  obtain ⟨m, hm⟩ : ∃ m, 2 * L.length - k = m + 1 := ⟨2 * L.length - k - 1, by omega⟩
  have e : trn L h = (k + 1, L') := by
    rw [← hs, hm]
    exact scn_hit (L'.getD z Fl.zero) (by rw [hl, hz]) hx
  refine ⟨by rw [Fl.hit_pass hx]; exact set_same hlt, e, ?_⟩
  unfold vic
  rw [e, hz]
  rfl
/-- a look that passes by -/
theorem SrAt.pass {w wr w2 : World} {bn ba bk g : Nat} {v : Value} {L L' : List Fl} {h k z z' : Nat} (s : SrAt w wr bn ba bk g v L L' h k) (hk : k < 2 * L.length) (hz : z = (h + k) % L.length) (hz' : z' = (z + 1) % L.length) (hx : (L'.getD z Fl.zero).hit = false)
    (ho : OwnF (fun i => i = g) w2 v (L'.set z (L'.getD z Fl.zero).pass)) (hv : VarAt w2 bk [.int .i64 ((k : Int) + 1)]) (hu : UpdS (fun i => i = bk ∨ i = g) wr w2) :
    SrAt w (w2.setCell ⟨ba, 0, none⟩ (.int .i64 z')) bn ba bk g v L (L'.set z (L'.getD z Fl.zero).pass) h (k + 1) := by
  obtain ⟨s1, s2, s3, s4, hl, s6, hs, sg, b1, b2, b3, b4⟩ := s
  obtain ⟨m, hm⟩ : ∃ m, 2 * L.length - k = m + 1 := ⟨2 * L.length - k - 1, by omega⟩
  have hu2 : UpdS (fun i => i = ba) w2 (w2.setCell ⟨ba, 0, none⟩ (.int .i64 z')) := upd_one w2 ba 0 _
  have e2 : z' = (h + (k + 1)) % L.length := by rw [hz', hz, mod_next]
  refine ⟨(s1.upd hu (by omega)).upd hu2 (by omega), ?_, hv.upd hu2 (by omega), OwnS.upd ho hu2 (fun i _ hi => by omega), by rw [List.length_set, hl], by omega, ?_, ?_, b1, b2, b3, b4⟩
  · rw [← e2]
    exact (s2.upd hu (by omega)).set 0 _
  · rw [← hs, hm, show 2 * L.length - (k + 1) = m by omega, scn_pass (L'.getD z Fl.zero) (by rw [hl, hz]) hx, hl, hz]
  · exact UpdS.new (UpdS.new sg hu (fun i hi => by omega)) hu2 (fun i hi => by omega)

set_option maxHeartbeats 2000000 in
theorem search_any {p : Nat → Prop} (b o n c : Nat) (L : List Fl) (h : Nat) (w : World) (hr : RdF p w (.slice (some ⟨b, o, none⟩) n c) L) (hh : h < L.length) (hL : L.length ≤ 1000) :
    Calls Try.prog 21 #[.slice (some ⟨b, o, none⟩) n c, .int .i64 h] w fun e w' => ∃ v', e = .returned (.tuple #[.int .i64 (vic L h), .int .i64 (trn L h).1, v']) ∧ OwnF (fun i => w.heap.size ≤ i) w' v' (trn L h).2 ∧ Grow w w' := by
  have hcl := clone_any b o n c L w hr (by omega)
  obtain rfl : n = L.length := hr.caps.1
  have hmf : ∀ (fn : Fn) (first cap : Array Value) (w : World), (Instr.makeFunc fn first cap).run Try.prog w = .ok (.func fn first cap) w := fun _ _ _ _ => rfl
  have h0 : decide ((h : Int) < 0) = false := decide_eq_false (by omega)
  have h1 : decide (L.length ≤ h) = false := decide_eq_false (by omega)
  have h2 : decide ((L.length : Int) ≤ (h : Int)) = false := decide_eq_false (by omega)
  have HH : Hid (h < L.length) := hh
  clear hr
  go_enter Try.func21, Try.ntmps21
  go_wp2
  go_step3
  go_wp2_with fail
  refine hcl.mono ?_
  rintro e w1 ⟨v', rfl, ho1, g1⟩
  obtain ⟨g, hg1, hg2, ho⟩ := own_block ho1 (by omega)
  obtain ⟨a1, c1, hv⟩ := ho1.shape
  subst hv
  have HS := hid (SrAt.start hh ho g1 hg1 hg2)
  clear ho1 g1 hcl ho hg1 hg2
  go_wp2
  go_step3
  go_wp2
  obtain ⟨bk, hbk⟩ : ∃ bk, bk = w1.heap.size + 1 + 1 := ⟨_, rfl⟩
  obtain ⟨ba, hba⟩ : ∃ ba, ba = w1.heap.size + 1 := ⟨_, rfl⟩
  obtain ⟨bn, hbn⟩ : ∃ bn, bn = w1.heap.size := ⟨_, rfl⟩
  rw [← hbk, ← hba, ← hbn] at HS ⊢
  clear hbk hba hbn
  generalize (((w1.alloc (.cells #[.slice a1 L.length c1] 22)).alloc (.cells #[.int .i64 h] 3)).alloc (.cells #[.int .i64 0] 3)) = w2 at HS ⊢
  go_loopg [10, 25] 2 (fun m fv iv wr => ∃ (i : Nat) (L' : List Fl), m = 2 - i ∧ i ≤ 2 ∧ fv = .bool false ∧ iv = .int .i64 i ∧ Hid (SrAt w wr bn ba bk g (.slice a1 L.length c1) L L' h (i * L.length)))
  case atStart => exact ⟨0, L, rfl, by omega, rfl, rfl, by rw [Nat.zero_mul]; exact HS.out⟩
  case round =>
    clear HS
    obtain ⟨i, L0, hi, hi2, rfl, rfl, S0⟩ := hrel
    by_cases hlt : i < 2
    · have hle : (i : Int) < 2 := by omega
      have HI : Hid (i < 2 ∧ gk = 2 - i) := ⟨hlt, hi⟩
      have hw0 : IntKind.i64.wrap ((i : Int) + 1) = ((i + 1 : Nat) : Int) := by rw [IntKind.wrap_i64]; omega
      clear hi hi2 hlt
      have c7 := (S0.out.1.2 0 (by show 0 < 1; omega)).1
      simp only [List.getElem?_cons_zero] at c7
      go_wp2
      clear c7
      go_loopg [10, 29] L.length (fun m fv iv wr => ∃ (j : Nat) (L' : List Fl), m = L.length - j ∧ j ≤ L.length ∧ fv = .bool false ∧ iv = .int .i64 j ∧ Hid (SrAt w wr bn ba bk g (.slice a1 L.length c1) L L' h (i * L.length + j)))
      case atStart => exact ⟨0, L0, rfl, by omega, rfl, rfl, by rw [Nat.add_zero]; exact S0.out⟩
      case round =>
        clear S0
        obtain ⟨j, L', hj, hj2, rfl, rfl, S⟩ := hrel
        by_cases hlt : j < L.length
        · have hle2 : (j : Int) < (L.length : Int) := by omega
          have HJ : Hid (j < L.length ∧ gk = L.length - j) := ⟨hlt, hj⟩
          have hw1 : IntKind.i64.wrap ((j : Int) + 1) = ((j + 1 : Nat) : Int) := by rw [IntKind.wrap_i64]; omega
          have hkb : i * L.length + j < 2 * L.length := by
            have := HI.out.1
            obtain rfl | rfl : i = 0 ∨ i = 1 := by omega
            · omega
            · omega
          have HE : Hid (i * L.length + (j + 1) = i * L.length + j + 1) := rfl
          generalize i * L.length + j = k at S hkb HE
          have HZ : Hid ((h + k) % L.length < L.length) := Nat.mod_lt _ (by omega)
          obtain ⟨z, hz⟩ : ∃ z, z = (h + k) % L.length := ⟨_, rfl⟩
          have Hz : Hid (z = (h + k) % L.length) := hz
          have HK : Hid (k < 2 * L.length) := hkb
          rw [← hz] at HZ
          have hzl : z < L.length := HZ.out
          obtain ⟨z', hz'⟩ : ∃ z', z' = (z + 1) % L.length := ⟨_, rfl⟩
          have Hz' : Hid (z' = (z + 1) % L.length) := hz'
          have s2 := S.out.2.1
          rw [← hz] at s2
          have hlook := look_any wr bk bn ba g k z (.slice a1 L.length c1) L' S.out.2.2.1 S.out.1 s2 S.out.2.2.2.1 (by rw [S.out.2.2.2.2.1]; exact hzl) (by rw [S.out.2.2.2.2.1]; omega) (by omega) (by have := S.out.2.2.2.2.2.2.2.2; omega) (by have := S.out.2.2.2.2.2.2.2.2; omega) (by have := S.out.2.2.2.2.2.2.2.2; omega)
          have hnx := fun w' => next_any z L.length w' (by omega) (by omega) (by omega)
          rw [← hz'] at hnx
          clear hz hz' hlt hj hj2 hkb hzl
          cases hx : (L'.getD z Fl.zero).hit with
          | true =>
            rw [hx] at hlook
            have HT := hid (S.out.hit HH.out HK.out Hz.out hx)
            clear hx hnx
            go_wp2_with fail
            refine hlook.mono ?_
            rintro e w3 ⟨rfl, ho3, hk3, hu3⟩
            have hn3 := S.out.1.upd hu3 (by have := S.out.2.2.2.2.2.2.2.2; omega)
            have ha3 := s2.upd hu3 (by have := S.out.2.2.2.2.2.2.2.2; omega)
            rw [HT.out.1] at ho3
            have HF : Hid (OwnF (fun i => w.heap.size ≤ i) w3.drew (.slice a1 L.length c1) (trn L h).2 ∧ Grow w w3.drew) := by
              rw [HT.out.2.1]
              exact ⟨OwnS.grow (OwnS.mono ho3 (fun i _ hi => by have := S.out.2.2.2.2.2.2.2.2; omega)) (Grow.refl _).drew, (UpdS.new S.out.2.2.2.2.2.2.2.1 hu3 (fun i hi => by have := S.out.2.2.2.2.2.2.2.2; omega)).drew⟩
            have HV : Hid ((z : Int) = (vic L h : Int) ∧ (k : Int) + 1 = ((trn L h).1 : Int)) := by
              rw [HT.out.2.1, HT.out.2.2]; exact ⟨rfl, rfl⟩
            have kx : ∀ w', Grow w3.drew w' → w'.cell? ⟨bn, 0, none⟩ = some (.slice a1 L.length c1) ∧ w'.cell? ⟨ba, 0, none⟩ = some (.int .i64 z) ∧ w'.cell? ⟨bk, 0, none⟩ = some (.int .i64 ((k : Int) + 1)) := fun w' hg =>
              ⟨((hn3.grow ((Grow.refl w3).drew.trans hg)).2 0 (by show 0 < 1; omega)).1, ((ha3.grow ((Grow.refl w3).drew.trans hg)).2 0 (by show 0 < 1; omega)).1, ((hk3.grow ((Grow.refl w3).drew.trans hg)).2 0 (by show 0 < 1; omega)).1⟩
            clear hlook ho3 hk3 hu3 hn3 ha3 s2 HT
            go_wp2
            refine wp_region_sched (by kernel_rfl) [(0, false), (1, false), (2, false), (3, false), (4, false), (5, false)] (by kernel_rfl) (by kernel_rfl) rfl (fun _ _ d _ _ h => by cases d <;> exact h) ?_
            simp only [inOrder, List.filterMap_cons, List.filterMap_nil, List.getElem?_toArray, List.getElem?_cons_zero, List.getElem?_cons_succ, Option.map_some]
            repeat (first
              | (refine wpS_move rfl ?_; simp only [Act.eval, Act.put, Array.getD_eq_getD_getElem?, List.getElem?_toArray, List.getElem?_cons_zero, List.getElem?_cons_succ, Option.getD_some, List.setIfInBounds_toArray, List.set_cons_zero, List.set_cons_succ])
              | (refine wpS_assign rfl ?_; simp only [Act.eval, Act.put, Array.getD_eq_getD_getElem?, List.getElem?_toArray, List.getElem?_cons_zero, List.getElem?_cons_succ, Option.getD_some, List.setIfInBounds_toArray, List.set_cons_zero, List.set_cons_succ])
              | (refine wpS_read (v := ?_) rfl ?_ ?_; rotate_left; (focus (intro w' hG; obtain ⟨cn, ca, ck⟩ := kx w' hG; go_simp; try (with_reducible rfl))); simp only [Act.put, List.setIfInBounds_toArray, List.set_cons_zero, List.set_cons_succ])
              | (refine wpS_skip rfl ?_; simp only [Act.put, List.setIfInBounds_toArray, List.set_cons_zero, List.set_cons_succ]))
            refine wpS_nil ?_
            go_wp2
            try rw [Exit.noGoto_ret]
            go_ret3
            exact ⟨_, ret_three HV.out.1 HV.out.2, HF.out⟩
          | false =>
            rw [hx] at hlook
            have Hx : Hid ((L'.getD z Fl.zero).hit = false) := hx
            clear hx
            go_wp2_with fail
            refine hlook.mono ?_
            rintro e w3 ⟨rfl, ho3, hk3, hu3⟩
            have HN := hid (S.out.pass HK.out Hz.out Hz'.out Hx.out ho3 hk3 hu3)
            have hn3 := S.out.1.upd hu3 (by have := S.out.2.2.2.2.2.2.2.2; omega)
            have ha3 := s2.upd hu3 (by have := S.out.2.2.2.2.2.2.2.2; omega)
            have cn := (hn3.2 0 (by show 0 < 1; omega)).1
            have ca := (ha3.2 0 (by show 0 < 1; omega)).1
            have fa := (ha3.2 0 (by show 0 < 1; omega)).2
            simp only [List.getElem?_cons_zero] at cn ca
            clear hlook ho3 hk3 hu3 hn3 ha3 s2
            go_wp2_with fail
            refine (hnx _).mono ?_
            rintro e w4 ⟨rfl, rfl⟩
            clear hnx
            go_wp2
            go_roundg (L.length - (j + 1))
            case measure => have := HJ.out; omega
            case rel => exact ⟨j + 1, _, rfl, HJ.out.1, rfl, rfl, by rw [HE.out]; exact HN⟩
        · have hle2 : ¬ (j : Int) < (L.length : Int) := by omega
          have HE : Hid (i * L.length + j = (i + 1) * L.length) := by
            have : Hid (j = L.length) := by show j = L.length; omega
            show i * L.length + j = (i + 1) * L.length
            rw [Nat.succ_mul, this.out]
          clear hlt hj hj2
          go_wp2
          go_roundg (2 - (i + 1))
          case measure => have := HI.out; omega
          case rel => exact ⟨i + 1, L', rfl, HI.out.1, rfl, rfl, by rw [← HE.out]; exact S⟩
    · have hle : ¬ (i : Int) < 2 := by omega
      have HT : Hid (trn L h = (0, L0)) := by
        obtain rfl : i = 2 := by omega
        have := S0.out.2.2.2.2.2.2.1
        rw [Nat.sub_self, scn_zero] at this
        exact this.symm
      have HF : Hid (OwnF (fun i => w.heap.size ≤ i) wr.drew (.slice a1 L.length c1) (trn L h).2 ∧ Grow w wr.drew) := by
        rw [HT.out]
        exact ⟨OwnS.grow (OwnS.mono S0.out.2.2.2.1 (fun i _ hi => by have := S0.out.2.2.2.2.2.2.2.2; omega)) (Grow.refl _).drew, S0.out.2.2.2.2.2.2.2.1.drew⟩
      have HV : Hid ((0 : Int) = (vic L h : Int) ∧ (0 : Int) = ((trn L h).1 : Int)) := by
        unfold vic; rw [HT.out]; exact ⟨rfl, rfl⟩
      have kx : ∀ w', Grow wr.drew w' → w'.cell? ⟨bn, 0, none⟩ = some (.slice a1 L.length c1) := fun w' hg => ((S0.out.1.grow ((Grow.refl wr).drew.trans hg)).2 0 (by show 0 < 1; omega)).1
      clear S0 HT hi hi2 hlt
      go_wp2
      refine wp_region_sched (by kernel_rfl) [(0, false), (1, false), (2, false), (3, false)] (by kernel_rfl) (by kernel_rfl) rfl (fun _ _ d _ _ h => by cases d <;> exact h) ?_
      simp only [inOrder, List.filterMap_cons, List.filterMap_nil, List.getElem?_toArray, List.getElem?_cons_zero, List.getElem?_cons_succ, Option.map_some]
      repeat (first
        | (refine wpS_move rfl ?_; simp only [Act.eval, Act.put, Array.getD_eq_getD_getElem?, List.getElem?_toArray, List.getElem?_cons_zero, List.getElem?_cons_succ, Option.getD_some, List.setIfInBounds_toArray, List.set_cons_zero, List.set_cons_succ])
        | (refine wpS_assign rfl ?_; simp only [Act.eval, Act.put, Array.getD_eq_getD_getElem?, List.getElem?_toArray, List.getElem?_cons_zero, List.getElem?_cons_succ, Option.getD_some, List.setIfInBounds_toArray, List.set_cons_zero, List.set_cons_succ])
        | (refine wpS_read (v := ?_) rfl ?_ ?_; rotate_left; (focus (intro w' hG; have cn := kx w' hG; go_simp; try (with_reducible rfl))); simp only [Act.put, List.setIfInBounds_toArray, List.set_cons_zero, List.set_cons_succ])
        | (refine wpS_skip rfl ?_; simp only [Act.put, List.setIfInBounds_toArray, List.set_cons_zero, List.set_cons_succ]))
      refine wpS_nil ?_
      go_wp2
      try rw [Exit.noGoto_ret]
      go_ret3
      exact ⟨_, ret_three HV.out.1 HV.out.2, HF.out⟩

theorem ret_four {x y x' y' : Int} {v : Value} {t t' : Bool} (h1 : x = x') (h2 : y = y') (h3 : t = t') : Ending.returned (.tuple #[.int .i64 x, .int .i64 y, v, .bool t]) = .returned (.tuple #[.int .i64 x', .int .i64 y', v, .bool t']) := by rw [h1, h2, h3]

set_option maxHeartbeats 2000000 in
theorem turn_any {p : Nat → Prop} (b o n c : Nat) (L : List Fl) (h : Nat) (w : World) (hr : RdF p w (.slice (some ⟨b, o, none⟩) n c) L) (hh : h < L.length) (hL : L.length ≤ 1000) :
    Calls Try.prog 14 #[.slice (some ⟨b, o, none⟩) n c, .int .i64 h] w fun e w' => ∃ v', e = .returned (.tuple #[.int .i64 (vic L h), .int .i64 (hnd L h), v', .bool (decide (0 < (trn L h).1))]) ∧ OwnF (fun i => w.heap.size ≤ i) w' v' (trn L h).2 ∧ Grow w w' := by
  have hs := search_any b o n c L h w hr hh hL
  obtain rfl : n = L.length := hr.caps.1
  have HH : Hid (hnd L h = if (trn L h).1 = 0 then h else (vic L h + 1) % L.length) := rfl
  have hv := vic_lt hh
  have HV0 : Hid (vic L h = if (trn L h).1 = 0 then 0 else (h + ((trn L h).1 - 1)) % L.length) := rfl
  generalize vic L h = V at *
  have hnx := fun w' => next_any V L.length w' (by omega) (by omega) (by omega)
  generalize hnd L h = Hd at *
  generalize trn L h = T at *
  obtain ⟨K, M⟩ := T
  simp only [] at hs HH HV0 ⊢
  clear hr
  by_cases hK : K = 0
  · have HE : Hid ((0 : Int) = (V : Int) ∧ (h : Int) = (Hd : Int) ∧ false = decide (0 < K)) := by
      have e1 := HH.out; have e2 := HV0.out
      rw [if_pos hK] at e1 e2
      rw [e1, e2, hK]; exact ⟨rfl, rfl, rfl⟩
    have hq : ((K : Int) == 0) = true := by rw [hK]; rfl
    clear hK HH HV0 hnx
    go_enter Try.func14, Try.ntmps14
    go_wp2_with fail
    refine hs.mono ?_
    rintro e w1 ⟨v', rfl, ho1, g1⟩
    have HF : Hid (OwnF (fun i => w.heap.size ≤ i) w1 v' M ∧ Grow w w1) := ⟨ho1, g1⟩
    clear hs ho1 g1
    go_wp2
    (try simp only [Exit.inBlock, Exit.then])
    refine bodyPost_ret (results_tmp4 rfl _ _) rfl ?_
    exact ⟨_, ret_four HE.out.1 HE.out.2.1 HE.out.2.2, HF.out⟩
  · obtain ⟨z', hz'⟩ : ∃ z', z' = (V + 1) % L.length := ⟨_, rfl⟩
    have HE : Hid ((z' : Int) = (Hd : Int) ∧ true = decide (0 < K)) := by
      have e1 := HH.out
      rw [if_neg hK, ← hz'] at e1
      rw [e1]; exact ⟨rfl, (decide_eq_true (by omega)).symm⟩
    have hq : ((K : Int) == 0) = false := by rw [beq_eq_false_iff_ne]; omega
    rw [← hz'] at hnx
    clear hK HH HV0 hz'
    go_enter Try.func14, Try.ntmps14
    go_wp2_with fail
    refine hs.mono ?_
    rintro e w1 ⟨v', rfl, ho1, g1⟩
    have HF : Hid (OwnF (fun i => w.heap.size ≤ i) w1 v' M ∧ Grow w w1) := ⟨ho1, g1⟩
    clear hs ho1 g1
    go_wp2_with fail
    refine (hnx _).mono ?_
    rintro e w2 ⟨rfl, rfl⟩
    go_wp2
    (try simp only [Exit.inBlock, Exit.then])
    refine bodyPost_ret (results_tmp4 rfl _ _) rfl ?_
    exact ⟨_, ret_four rfl HE.out.1 HE.out.2, HF.out⟩

set_option maxHeartbeats 2000000 in
theorem rounds_any {p : Nat → Prop} (b o n c : Nat) (L : List Fl) (h : Nat) (w : World) (hr : RdF p w (.slice (some ⟨b, o, none⟩) n c) L) (hh : h < L.length) (hL : L.length ≤ 1000) :
    Calls Try.prog 16 #[.slice (some ⟨b, o, none⟩) n c, .int .i64 h] w fun e w' => e = .returned (.int .i64 (trn L h).1) ∧ Grow w w' := by
  have hs := search_any b o n c L h w hr hh hL
  generalize vic L h = V at *
  generalize trn L h = T at *
  obtain ⟨K, M⟩ := T
  simp only [] at hs ⊢
  clear hr
  go_enter Try.func16, Try.ntmps16
  go_wp2_with fail
  refine hs.mono ?_
  rintro e w1 ⟨v', rfl, ho1, g1⟩
  have HF : Hid (Grow w w1) := g1
  clear hs ho1 g1
  go_wp2
  go_ret
  exact ⟨rfl, HF.out⟩
end Go.Proofs.Ytabhbeknpchpkaa
