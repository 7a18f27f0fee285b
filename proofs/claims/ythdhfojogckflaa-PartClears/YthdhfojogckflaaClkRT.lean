/-
  The walk of the document's Turn. Conditions: each theorem's own.
-/
import Derived.Test.YthdhfojogckflaaClkG
import Derived.Deep.LoopGhost
import Derived.Deep.CutRange
namespace Go.Proofs.Ythdhfojogckflaa
open Go.RowKit
set_option linter.unusedVariables false
set_option linter.unusedSimpArgs false


theorem load_T (b : Nat) (x y z : Int) (v : Value) (w : World) (h : VarAt w b [.int .i64 x, .int .i64 y, v, .int .i64 z]) (hv : v.oneCell' = true) : (loadVar 96 ⟨b, 0, none⟩).run Try.prog w = .ok (.agg #[.int .i64 x, .int .i64 y, v, .int .i64 z]) w := by
  obtain ⟨⟨h0, h1, h2, h3⟩, -⟩ := h.four
  cases v <;> simp [Value.oneCell'] at hv <;> go_simp

/-- the document's turn, behind k looks -/
def RtAt (w wr : World) (R B g : Nat) (v : Value) (L L' : List Fl) (h k : Nat) : Prop :=
  VarAt wr R [.int .i64 (0 : Int), .int .i64 (0 : Int), .slice none 0 0, .int .i64 (0 : Int)] ∧ VarAt wr B [.int .i64 (0 : Int), .int .i64 h, v, .int .i64 (0 : Int)] ∧ OwnF (fun i => i = g) wr v L' ∧ L'.length = L.length ∧ k ≤ 2 * L.length ∧ scn h (2 * L.length - k) k L' = trn L h ∧ Grow w wr ∧ (∀ x ∈ L', 0 ≤ x.p) ∧ w.heap.size ≤ R ∧ R < g ∧ g < B

theorem RtAt.grow {w wr w1 : World} {R B g : Nat} {v : Value} {L L' : List Fl} {h k : Nat} (s : RtAt w wr R B g v L L' h k) (hg : Grow wr w1) : RtAt w w1 R B g v L L' h k := by
  obtain ⟨s1, s2, s3, hl, s5, hs, sg, hb, b⟩ := s
  exact ⟨s1.grow hg, s2.grow hg, OwnS.grow s3 hg, hl, s5, hs, sg.trans hg, hb, b⟩
theorem own_adr {w : World} {v : Value} {l : List Fl} {g : Nat} (h : OwnF (fun i => i = g) w v l) (h0 : 0 < l.length) : ∃ o c, v = .slice (some ⟨g, o, none⟩) l.length c := by
  obtain ⟨g', o, c, e, rfl, _⟩ := OwnS.row h Fl.cs_length Fl.zero h0
  exact ⟨o, c, e⟩
theorem own_at {w : World} {l : List Fl} {g o n c z : Nat} (h : OwnF (fun i => i = g) w (.slice (some ⟨g, o, none⟩) n c) l) (hz : z < l.length) : FIn w g (o + z * 4) (l.getD z Fl.zero) ∧ w.frozen? ⟨g, o + z * 4 + 2, none⟩ = false ∧ OwnF (fun i => i = g) (w.setCell ⟨g, o + z * 4 + 2, none⟩ (.bool false)) (.slice (some ⟨g, o, none⟩) n c) (l.set z (l.getD z Fl.zero).cool) := by
  obtain ⟨g', o', c', e, rfl, _, _, _, hcell, hfr, hset⟩ := OwnS.row h Fl.cs_length Fl.zero hz
  injection e with e1 e2 e3
  injection e1 with e1
  injection e1 with _ e4
  subst e4
  exact ⟨⟨hcell 0 (by omega), hcell 1 (by omega), hcell 2 (by omega), hcell 3 (by omega)⟩, hfr 2 (by omega), hset 2 _ _ (by omega) rfl⟩

theorem RtAt.hit {w wr : World} {R B g : Nat} {v : Value} {L L' : List Fl} {h k z : Nat} (s : RtAt w wr R B g v L L' h k) (hk : k < 2 * L.length) (hz : z = (h + k) % L.length) (hx : (L'.getD z Fl.zero).hit = true) :
    trn L h = (k + 1, L') ∧ vic L h = z ∧ hnd L h = (z + 1) % L.length := by
  obtain ⟨_, _, _, hl, _, hs, _⟩ := s
  obtain ⟨m, hm⟩ : ∃ m, 2 * L.length - k = m + 1 := ⟨2 * L.length - k - 1, by omega⟩
  have e : trn L h = (k + 1, L') := by
    rw [← hs, hm]
    exact scn_hit (L'.getD z Fl.zero) (by rw [hl, hz]) hx
  have ev : vic L h = z := by
    unfold vic
    rw [e, hz]
    rfl
  refine ⟨e, ev, ?_⟩
  unfold hnd
  rw [ev, e]
  rfl
theorem mem_set_bd {l : List Fl} {i : Nat} {y : Fl} (h : ∀ x ∈ l, 0 ≤ x.p) (hy : 0 ≤ y.p) : ∀ x ∈ l.set i y, 0 ≤ x.p := fun x hx => by
  rcases List.mem_or_eq_of_mem_set hx with h1 | h1
  · exact h x h1
  · rw [h1]; exact hy
theorem RtAt.pass {w wr w2 : World} {R B g : Nat} {v : Value} {L L' : List Fl} {h k z : Nat} (s : RtAt w wr R B g v L L' h k) (hk : k < 2 * L.length) (hz : z = (h + k) % L.length) (hx : (L'.getD z Fl.zero).hit = false)
    (ho : OwnF (fun i => i = g) w2 v (L'.set z (L'.getD z Fl.zero).pass)) (hu : UpdS (fun i => i = g) wr w2) : RtAt w w2 R B g v L (L'.set z (L'.getD z Fl.zero).pass) h (k + 1) := by
  obtain ⟨s1, s2, s3, hl, s5, hs, sg, hb, b1, b2, b3⟩ := s
  obtain ⟨m, hm⟩ : ∃ m, 2 * L.length - k = m + 1 := ⟨2 * L.length - k - 1, by omega⟩
  refine ⟨s1.upd hu (by omega), s2.upd hu (by omega), ho, by rw [List.length_set, hl], by omega, ?_, UpdS.new sg hu (fun i hi => by omega), mem_set_bd hb ?_, b1, b2, b3⟩
  · rw [← hs, hm, show 2 * L.length - (k + 1) = m by omega, scn_pass (L'.getD z Fl.zero) (by rw [hl, hz]) hx, hl, hz]
  · rw [Fl.pass_p]
    by_cases hlt : z < L'.length
    · rw [getD_is hlt]; exact hb _ (List.getElem_mem hlt)
    · have : L'.getD z Fl.zero = Fl.zero := by simp [List.getD, List.getElem?_eq_none (Nat.le_of_not_lt hlt)]
      rw [this]; exact Int.le_refl _

set_option maxRecDepth 8000 in
set_option maxHeartbeats 4000000 in
theorem rturn_any {p : Nat → Prop} (v : Value) (L : List Fl) (h : Nat) (w : World) (hr : RdF p w v L) (hh : h < L.length) (hL : L.length ≤ 1000) (hp : ∀ x ∈ L, 0 ≤ x.p) :
    Calls Try.prog 58 #[v, .int .i64 h] w fun e w' => ∃ v', e = .returned (.agg #[.int .i64 (vic L h), .int .i64 (hnd L h), v', .int .i64 (trn L h).1]) ∧ OwnF (fun i => w.heap.size ≤ i) w' v' (trn L h).2 ∧ Grow w w' := by
  obtain ⟨i0, hinf, hz0, hz1, hz2⟩ := info_parts infoG
  have HH : Hid (h < L.length ∧ ∀ x ∈ L, 0 ≤ x.p) := ⟨hh, hp⟩
  have hw2 : IntKind.i64.wrap (2 * (L.length : Int)) = 2 * (L.length : Int) := by rw [IntKind.wrap_i64]; omega
  have gR : Grow w (w.alloc (.cells #[.int .i64 (0 : Int), .int .i64 (0 : Int), .slice none 0 0, .int .i64 (0 : Int)] 96)) := (Grow.refl w).alloc _
  have hR := VarAt.new w [.int .i64 (0 : Int), .int .i64 (0 : Int), .slice none 0 0, .int .i64 (0 : Int)] 96
  have hsrc := (RdS.grow hr gR).src Fl.cs_length Fl.cs_one Try.underlying94
  obtain ⟨a, cp, rfl, h1, h2, -⟩ := hr
  unfold maxLen at h2
  clear hp
  go_enter Try.func58, Try.ntmps58
  go_wp2_with (at_builtin; refine wpList_appS (f := Fl.cs) (k := 4) (p := fun _ => False) rfl (.tmp 12) (.tmp 13) 94 94 rfl Fl.cs_length (by omega) i0 (.agg #[.bool false, .bool false, .bool false, .int .i64 0]) 16 Try.underlying94 hinf hz0 hz1 hz2 rfl rfl rfl (OwnS.nil _ _ _ _ _) hsrc (by simp only [maxLen, List.length_nil]; omega) (by simp only [List.length_nil]; omega) ?_)
  intro v3 w3 ho3 hu3
  have ho3' : OwnF (fun i => i = w.heap.size + 1) w3 v3 L := ho3
  obtain ⟨g, hg, hg2, hog⟩ := own_block ho3' (by omega)
  obtain ⟨o3, c3, hv3⟩ := own_adr hog (by omega)
  subst hv3
  have g3 : Grow (w.alloc (.cells #[.int .i64 (0 : Int), .int .i64 (0 : Int), .slice none 0 0, .int .i64 (0 : Int)] 96)) w3 := UpdS.new (Grow.refl _) hu3 (fun i hi => hi.elim)
  have gB : Grow w3 (w3.alloc (.cells #[.int .i64 (0 : Int), .int .i64 h, (.slice (some ⟨g, o3, none⟩) L.length c3), .int .i64 (0 : Int)] 96)) := (Grow.refl w3).alloc _
  have HS : Hid (RtAt w (w3.alloc (.cells #[.int .i64 (0 : Int), .int .i64 h, (.slice (some ⟨g, o3, none⟩) L.length c3), .int .i64 (0 : Int)] 96)) w.heap.size w3.heap.size g (.slice (some ⟨g, o3, none⟩) L.length c3) L L h 0) := by
    refine ⟨(hR.grow g3).grow gB, VarAt.new w3 [.int .i64 (0 : Int), .int .i64 h, (.slice (some ⟨g, o3, none⟩) L.length c3), .int .i64 (0 : Int)] _, OwnS.grow hog gB, rfl, Nat.zero_le _, rfl, (gR.trans g3).trans gB, HH.out.2, Nat.le_refl _, ?_, hg2⟩
    omega
  clear ho3 hu3 ho3' hg hg2 hog g3 gB gR hR hsrc hinf hz0 hz1 hz2 hh
  go_upto_region 5 with fail
  generalize w3.alloc (.cells #[.int .i64 (0 : Int), .int .i64 h, (.slice (some ⟨g, o3, none⟩) L.length c3), .int .i64 (0 : Int)] 96) = w4 at HS ⊢
  generalize w3.heap.size = B at HS ⊢
  obtain ⟨R, hR⟩ : ∃ R, R = w.heap.size := ⟨_, rfl⟩
  rw [← hR] at HS ⊢
  have HRq : Hid (w.heap.size ≤ R) := by rw [hR]; exact Nat.le_refl _
  clear hR
  go_wp2
  go_loopg [8] (2 * L.length) (fun m kv wr => ∃ (k : Nat) (L' : List Fl), m = 2 * L.length - k ∧ k ≤ 2 * L.length ∧ kv = .int .i64 k ∧ Hid (RtAt w wr R B g (.slice (some ⟨g, o3, none⟩) L.length c3) L L' h k))
  case atStart => exact ⟨0, L, rfl, by omega, rfl, HS⟩
  case round =>
    clear HS
    obtain ⟨k, L', hk, hk2, rfl, S⟩ := hrel
    by_cases hlt : k < 2 * L.length
    · have hle : (k : Int) < 2 * (L.length : Int) := by omega
      have HK : Hid (k < 2 * L.length ∧ gk = 2 * L.length - k) := ⟨hlt, hk⟩
      have hh := HH.out.1
      have HZ : Hid ((h + k) % L.length < L.length) := Nat.mod_lt _ (by omega)
      obtain ⟨z, hz⟩ : ∃ z, z = (h + k) % L.length := ⟨_, rfl⟩
      have Hz : Hid (z = (h + k) % L.length) := hz
      have hm1 : ((h : Int) + (k : Int)) % (L.length : Int) = (z : Int) := by rw [hz]; rfl
      have hm2 : Int.tmod ((h : Int) + (k : Int)) (L.length : Int) = (z : Int) := by rw [Int.tmod_eq_emod_of_nonneg (by omega)]; exact hm1
      have hw1 : IntKind.i64.wrap ((k : Int) + 1) = (k : Int) + 1 := by rw [IntKind.wrap_i64]; omega
      have hw3 : IntKind.i64.wrap ((h : Int) + (k : Int)) = (h : Int) + (k : Int) := by rw [IntKind.wrap_i64]; omega
      have hn0 : ¬ (L.length : Int) = 0 := by omega
      rw [← hz] at HZ
      have hzl : z < L'.length := by rw [S.out.2.2.2.1]; exact HZ.out
      have hzi : (z : Int) < (L.length : Int) := by have := HZ.out; omega
      obtain ⟨z', hz'⟩ : ∃ z', z' = (z + 1) % L.length := ⟨_, rfl⟩
      have Hz' : Hid (z' = (z + 1) % L.length) := hz'
      have hm3 : ((z : Int) + 1) % (L.length : Int) = (z' : Int) := by rw [hz']; rfl
      have hm4 : Int.tmod ((z : Int) + 1) (L.length : Int) = (z' : Int) := by rw [Int.tmod_eq_emod_of_nonneg (by omega)]; exact hm3
      have hw4 : IntKind.i64.wrap ((z : Int) + 1) = (z : Int) + 1 := by rw [IntKind.wrap_i64]; omega
      have HS : Hid (L'.set z (L'.getD z Fl.zero) = L') := set_same hzl
      have hpx : 0 ≤ (L'.getD z Fl.zero).p := S.out.2.2.2.2.2.2.2.1 _ (by rw [getD_is hzl]; exact List.getElem_mem hzl)
      have hgo := fun w' => goes_any (L'.getD z Fl.zero) w' hpx
      have HT := hid (fun hx => S.out.hit HK.out.1 Hz.out hx)
      have HP : Hid True := trivial
      obtain ⟨⟨q0, q1, q2, q3⟩, -⟩ := own_at S.out.2.2.1 hzl
      clear hz hz' hlt hk hk2 hpx hh
      obtain ⟨x, hx⟩ : ∃ x, L'.getD z Fl.zero = x := ⟨_, rfl⟩
      rw [hx] at q0 q1 q2 q3 hgo
      obtain ⟨u, d, r, q⟩ := x
      simp only [] at q0 q1 q2 q3 hgo
      cases u
      · have HX : Hid ((L'.getD z Fl.zero).hit = true) := by rw [hx]; rfl
        have hm : (Fl.mk false d r q).may = true := rfl
        rw [hm] at hgo
        clear hm
        go_wp2_with fail
        refine (hgo wr).mono ?_
        rintro e w1 ⟨rfl, gw⟩
        have S1 := hid (S.out.grow gw)
        obtain ⟨⟨p0, p1, p2, p3⟩, -⟩ := own_at S1.out.2.2.1 hzl
        rw [hx] at p0 p1 p2 p3
        simp only [] at p0 p1 p2 p3
        obtain ⟨⟨-, -, -, -⟩, r0, r1, r2, r3⟩ := S1.out.1.four
        obtain ⟨⟨t0, t1, t2, t3⟩, -⟩ := S1.out.1.four
        have HF := hid (HT.out HX.out)
        clear hgo gw q0 q1 q2 q3 hx hzl HS HP S
        go_wp2
        have hfin := S1.out.1.setF4 (.int .i64 z) (.int .i64 z') (.slice (some ⟨g, o3, none⟩) L.length c3) (.int .i64 ((k : Int) + 1))
        have hu4 := updF4 w1 R (.int .i64 z) (.int .i64 z') (.slice (some ⟨g, o3, none⟩) L.length c3) (.int .i64 ((k : Int) + 1))
        refine bodyPost_ret_by (results_cell rfl _ _ _ (.agg #[.int .i64 z, .int .i64 z', (.slice (some ⟨g, o3, none⟩) L.length c3), .int .i64 ((k : Int) + 1)]) rfl (load_T R _ _ _ _ _ hfin rfl)) rfl ⟨(.slice (some ⟨g, o3, none⟩) L.length c3), ?_, ?_, ?_⟩
        · rw [HF.out.2.1, HF.out.2.2, ← Hz'.out, HF.out.1]; rfl
        · rw [HF.out.1]
          exact OwnS.mono (OwnS.upd S1.out.2.2.1 hu4 (fun i _ hi => by have := S1.out.2.2.2.2.2.2.2.2; omega)) (fun i _ hi => by have := S1.out.2.2.2.2.2.2.2.2; omega)
        · exact UpdS.new S1.out.2.2.2.2.2.2.1 hu4 (fun i hi => by have := S1.out.2.2.2.2.2.2.2.2; omega)
      · by_cases hq : q ≤ 0
        · have hm : (Fl.mk true d r q).may = true := by simp [Fl.may, hq]
          rw [hm] at hgo
          clear hm
          cases r
          · have HX : Hid ((L'.getD z Fl.zero).hit = true) := by rw [hx]; show _ = _; simp [Fl.hit, hq]
            clear hq
            go_wp2_with fail
            refine (hgo wr).mono ?_
            rintro e w1 ⟨rfl, gw⟩
            have S1 := hid (S.out.grow gw)
            obtain ⟨⟨p0, p1, p2, p3⟩, -⟩ := own_at S1.out.2.2.1 hzl
            rw [hx] at p0 p1 p2 p3
            simp only [] at p0 p1 p2 p3
            obtain ⟨⟨-, -, -, -⟩, r0, r1, r2, r3⟩ := S1.out.1.four
            obtain ⟨⟨t0, t1, t2, t3⟩, -⟩ := S1.out.1.four
            have HF := hid (HT.out HX.out)
            clear hgo gw q0 q1 q2 q3 hx hzl HS HP S
            go_wp2
            have hfin := S1.out.1.setF4 (.int .i64 z) (.int .i64 z') (.slice (some ⟨g, o3, none⟩) L.length c3) (.int .i64 ((k : Int) + 1))
            have hu4 := updF4 w1 R (.int .i64 z) (.int .i64 z') (.slice (some ⟨g, o3, none⟩) L.length c3) (.int .i64 ((k : Int) + 1))
            refine bodyPost_ret_by (results_cell rfl _ _ _ (.agg #[.int .i64 z, .int .i64 z', (.slice (some ⟨g, o3, none⟩) L.length c3), .int .i64 ((k : Int) + 1)]) rfl (load_T R _ _ _ _ _ hfin rfl)) rfl ⟨(.slice (some ⟨g, o3, none⟩) L.length c3), ?_, ?_, ?_⟩
            · rw [HF.out.2.1, HF.out.2.2, ← Hz'.out, HF.out.1]; rfl
            · rw [HF.out.1]
              exact OwnS.mono (OwnS.upd S1.out.2.2.1 hu4 (fun i _ hi => by have := S1.out.2.2.2.2.2.2.2.2; omega)) (fun i _ hi => by have := S1.out.2.2.2.2.2.2.2.2; omega)
            · exact UpdS.new S1.out.2.2.2.2.2.2.1 hu4 (fun i hi => by have := S1.out.2.2.2.2.2.2.2.2; omega)
          · have HX : Hid ((L'.getD z Fl.zero).hit = false) := by rw [hx]; show _ = _; simp [Fl.hit]
            have HPs : Hid ((L'.getD z Fl.zero).pass = (Fl.mk true d true q).cool) := by rw [hx]; show _ = _; simp [Fl.pass, hq]
            clear hq
            go_wp2_with fail
            refine (hgo wr).mono ?_
            rintro e w1 ⟨rfl, gw⟩
            have S1 := hid (S.out.grow gw)
            obtain ⟨⟨p0, p1, p2, p3⟩, fz, hst⟩ := own_at S1.out.2.2.1 hzl
            rw [hx] at p0 p1 p2 p3 hst
            simp only [] at p0 p1 p2 p3
            have HN := hid (S1.out.pass (w2 := w1.setCell ⟨g, o3 + z * 4 + 2, none⟩ (.bool false)) HK.out.1 Hz.out HX.out (by rw [HPs.out]; exact hst) (upd_one w1 g _ _))
            clear hgo gw q0 q1 q2 q3 hx hzl HS HP S HT hst
            go_wp2
            go_roundg (2 * L.length - (k + 1))
            case measure => have := HK.out; omega
            case rel => exact ⟨k + 1, _, rfl, HK.out.1, rfl, HN⟩
        · have hm : (Fl.mk true d r q).may = false := by simp [Fl.may, hq]
          rw [hm] at hgo
          clear hm
          have HX : Hid ((L'.getD z Fl.zero).hit = false) := by rw [hx]; show _ = _; simp [Fl.hit, hq]
          have HPs : Hid ((L'.getD z Fl.zero).pass = L'.getD z Fl.zero) := by rw [hx]; show _ = _; simp [Fl.pass, hq]
          clear hq
          go_wp2_with fail
          refine (hgo wr).mono ?_
          rintro e w1 ⟨rfl, gw⟩
          have S1 := hid (S.out.grow gw)
          obtain ⟨⟨p0, p1, p2, p3⟩, fz, hst⟩ := own_at S1.out.2.2.1 hzl
          rw [hx] at p0 p1 p2 p3 hst
          simp only [] at p0 p1 p2 p3
          have HN := hid (S1.out.pass (w2 := w1) HK.out.1 Hz.out HX.out (by rw [HPs.out, HS.out]; exact S1.out.2.2.1) (UpdS.refl _ _))
          clear hgo gw q0 q1 q2 q3 hx hzl HS HP S HT hst
          go_wp2
          go_roundg (2 * L.length - (k + 1))
          case measure => have := HK.out; omega
          case rel => exact ⟨k + 1, _, rfl, HK.out.1, rfl, HN⟩
    · have hle : ¬ (k : Int) < 2 * (L.length : Int) := by omega
      have HT : Hid (trn L h = (0, L')) := by
        have e := S.out.2.2.2.2.2.1
        rw [show 2 * L.length - k = 0 by omega, scn_zero] at e
        exact e.symm
      have HV : Hid (vic L h = 0 ∧ hnd L h = h) := by
        have e : vic L h = 0 := by unfold vic; rw [HT.out]; rfl
        refine ⟨e, ?_⟩
        unfold hnd; rw [HT.out]; rfl
      obtain ⟨⟨t0, t1, t2, t3⟩, r0, r1, r2, r3⟩ := S.out.1.four
      obtain ⟨⟨y0, y1, y2, y3⟩, -⟩ := S.out.2.1.four
      clear hk hk2 hlt
      go_wp2
      have hfin := S.out.1.setF4 (.int .i64 (0 : Int)) (.int .i64 h) (.slice (some ⟨g, o3, none⟩) L.length c3) (.int .i64 (0 : Int))
      have hu4 := updF4 wr R (.int .i64 (0 : Int)) (.int .i64 h) (.slice (some ⟨g, o3, none⟩) L.length c3) (.int .i64 (0 : Int))
      refine bodyPost_ret_by (results_cell rfl _ _ _ (.agg #[.int .i64 (0 : Int), .int .i64 h, (.slice (some ⟨g, o3, none⟩) L.length c3), .int .i64 (0 : Int)]) rfl (load_T R _ _ _ _ _ hfin rfl)) rfl ⟨(.slice (some ⟨g, o3, none⟩) L.length c3), ?_, ?_, ?_⟩
      · rw [HV.out.1, HV.out.2, HT.out]; rfl
      · rw [HT.out]
        exact OwnS.mono (OwnS.upd S.out.2.2.1 hu4 (fun i _ hi => by have := S.out.2.2.2.2.2.2.2.2; omega)) (fun i _ hi => by have := S.out.2.2.2.2.2.2.2.2; omega)
      · exact UpdS.new S.out.2.2.2.2.2.2.1 hu4 (fun i hi => by have := S.out.2.2.2.2.2.2.2.2; omega)
end Go.Proofs.Ythdhfojogckflaa
