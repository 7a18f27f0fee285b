/-
  The walk of the document's Turn. Conditions: each theorem's own.
-/
import Derived.Test.YtgpigllimoafaaaClkG
import Derived.Deep.LoopGhost
import Derived.Deep.CutRange
namespace Go.Proofs.Ytgpigllimoafaaa
open Go.RowKit
set_option linter.unusedVariables false
set_option linter.unusedSimpArgs false


/-- the document's turn, behind k looks -/
def RtAt (w wr : World) (R B g : Nat) (v : Value) (L L' : List Fl) (h k : Nat) : Prop :=
  VarAt wr R [.int .i64 (0 : Int), .int .i64 (0 : Int), .slice none 0 0, .int .i64 (0 : Int)] ∧ VarAt wr B [.int .i64 (0 : Int), .int .i64 h, v, .int .i64 (0 : Int)] ∧ OwnF (fun i => i = g) wr v L' ∧ L'.length = L.length ∧ k ≤ 2 * L.length ∧ scn h (2 * L.length - k) k L' = trn L h ∧ Grow w wr ∧ (∀ x ∈ L', 0 ≤ x.p) ∧ w.heap.size ≤ R ∧ R < g ∧ g < B

theorem RtAt.grow {w wr w1 : World} {R B g : Nat} {v : Value} {L L' : List Fl} {h k : Nat} (s : RtAt w wr R B g v L L' h k) (hg : Grow wr w1) : RtAt w w1 R B g v L L' h k := by
  obtain ⟨s1, s2, s3, hl, s5, hs, sg, hb, b⟩ := s
  exact ⟨s1.grow hg, s2.grow hg, OwnS.grow s3 hg, hl, s5, hs, sg.trans hg, hb, b⟩
theorem own_adr {w : World} {v : Value} {l : List Fl} {g : Nat} (h : OwnF (fun i => i = g) w v l) (h0 : 0 < l.length) : ∃ o c, v = .slice (some ⟨g, o, none⟩) l.length c := by
  obtain ⟨g', o, c, e, rfl, _⟩ := OwnS.row h Fl.cs_length Fl.zero h0
  exact ⟨o, c, e⟩
theorem own_at {w : World} {l : List Fl} {g o n c z : Nat} (h : OwnF (fun i => i = g) w (.slice (some ⟨g, o, none⟩) n c) l) (hz : z < l.length) : FIn w g (o + z * 4) (l.getD z Fl.zero) ∧ w.frozen? ⟨g, o + z * 4 + 2, none⟩ = false ∧ OwnF (fun i => i = g) (w.setCell ⟨g, o + z * 4 + 2, none⟩ (.bool false)) (.slice (some ⟨g, o, none⟩) n c) (l.set z (l.getD z Fl.zero).cool) := by
  obtain ⟨g', o', c', e, rfl, _, _, _, hcell, hfr, hset⟩ := OwnS.row h Fl.cs_length Fl.zero hz
  injection e with e1 e2 e3
  injection e1 with e1
  injection e1 with _ e4
  subst e4
  exact ⟨⟨hcell 0 (by omega), hcell 1 (by omega), hcell 2 (by omega), hcell 3 (by omega)⟩, hfr 2 (by omega), hset 2 _ _ (by omega) rfl⟩

theorem RtAt.hit {w wr : World} {R B g : Nat} {v : Value} {L L' : List Fl} {h k z : Nat} (s : RtAt w wr R B g v L L' h k) (hk : k < 2 * L.length) (hz : z = (h + k) % L.length) (hx : (L'.getD z Fl.zero).hit = true) :
    trn L h = (k + 1, L') ∧ vic L h = z ∧ hnd L h = (z + 1) % L.length := by
  obtain ⟨_, _, _, hl, _, hs, _⟩ := s
  obtain ⟨m, hm⟩ : ∃ m, 2 * L.length - k = m + 1 := ⟨2 * L.length - k - 1, by omega⟩
  have e : trn L h = (k + 1, L') := by
    rw [← hs, hm]
    exact scn_hit (L'.getD z Fl.zero) (by rw [hl, hz]) hx
  have ev : vic L h = z := by
    unfold vic
    rw [e, hz]
    rfl
  refine ⟨e, ev, ?_⟩
  unfold hnd
  rw [ev, e]
  rfl
theorem mem_set_bd {l : List Fl} {i : Nat} {y : Fl} (h : ∀ x ∈ l, 0 ≤ x.p) (hy : 0 ≤ y.p) : ∀ x ∈ l.set i y, 0 ≤ x.p := fun x hx => by
  rcases List.mem_or_eq_of_mem_set hx with h1 | h1
  · exact h x h1
  · rw [h1]; exact hy
theorem RtAt.pass {w wr w2 : World} {R B g : Nat} {v : Value} {L L' : List Fl} {h k z : Nat} (s : RtAt w wr R B g v L L' h k) (hk : k < 2 * L.length) (hz : z = (h + k) % L.length) (hx : (L'.getD z Fl.zero).hit = false)
    (ho : OwnF (fun i => i = g) w2 v (L'.set z (L'.getD z Fl.zero).pass)) (hu : UpdS (fun i => i = g) wr w2) : RtAt w w2 R B g v L (L'.set z (L'.getD z Fl.zero).pass) h (k + 1) := by
  obtain ⟨s1, s2, s3, hl, s5, hs, sg, hb, b1, b2, b3⟩ := s
  obtain ⟨m, hm⟩ : ∃ m, 2 * L.length - k = m + 1 := ⟨2 * L.length - k - 1, by omega⟩
  refine ⟨s1.upd hu (by omega), s2.upd hu (by omega), ho, by rw [List.length_set, hl], by omega, ?_, UpdS.new sg hu (fun i hi => by omega), mem_set_bd hb ?_, b1, b2, b3⟩
  · rw [← hs, hm, show 2 * L.length - (k + 1) = m by omega, scn_pass (L'.getD z Fl.zero) (by rw [hl, hz]) hx, hl, hz]
  · rw [Fl.pass_p]
    by_cases hlt : z < L'.length
    · rw [getD_is hlt]; exact hb _ (List.getElem_mem hlt)
    · have : L'.getD z Fl.zero = Fl.zero := by simp [List.getD, List.getElem?_eq_none (Nat.le_of_not_lt hlt)]
      rw [this]; exact Int.le_refl _

end Go.Proofs.Ytgpigllimoafaaa
