/-
  The walk of ClockSpares. Conditions: each theorem's own.
-/
import Derived.Test.YtabhbeknpchpkaaClkLive
import Derived.Deep.LoopGhost
import Derived.Deep.CutRange
namespace Go.Proofs.Ytabhbeknpchpkaa
open Go.RowKit
set_option linter.unusedVariables false
set_option linter.unusedSimpArgs false


theorem any_next {L : List Fl} {j : Nat} (hj : j < L.length) : (L.take (j + 1)).any Fl.hit = ((L.take j).any Fl.hit || (L.getD j Fl.zero).hit) := by
  rw [take_next hj, List.any_append]; simp
theorem any_hit {L : List Fl} (h : L.any Fl.hit = true) : ∃ i, i < L.length ∧ (L.getD i Fl.zero).hit = true := by
  obtain ⟨x, hx, hh⟩ := List.any_eq_true.1 h
  obtain ⟨i, hi, e⟩ := List.getElem_of_mem hx
  exact ⟨i, hi, by rw [getD_is hi, e]; exact hh⟩
theorem hit_is {x : Fl} (hp : 0 ≤ x.p) : x.hit = (!x.u || ((x.p == 0) && !x.r)) := by
  unfold Fl.hit
  congr 2
  by_cases e : x.p = 0
  · rw [e]; rfl
  · rw [beq_eq_false_iff_ne.2 e, decide_eq_false (by omega)]

set_option maxRecDepth 8000 in
set_option maxHeartbeats 4000000 in
theorem clockSpares_walk {p : Nat → Prop} (v : Value) (zs : List Fl) (hand : Int) (w : World) (hv : RdF p w v zs) (hwf : ∀ x ∈ zs, (Lit.int .i64 x.p).wf = true) (hb : zs.length * 16 ≤ 140737488355328) (hh : (Lit.int .i64 hand).wf = true) :
    Calls Try.prog 5 #[v, .int .i64 hand] w fun e w' => e = .returned (.bool true) ∧ Below w.heap.size w w' := by
  have has := as_any v zs w hv hb
  clear hv hb
  go_enter Try.func5, Try.ntmps5
  go_wp2_with fail
  refine has.mono ?_
  rintro e w1 ⟨v1, rfl, ho1, g1⟩
  have hgd := good_any v1 zs w1 ho1.rd hwf
  clear has ho1
  go_wp2_with fail
  refine hgd.mono ?_
  rintro e w2 ⟨v2, rfl, hr2, g2⟩
  have hof := of_any v2 (goodL zs) w2 hr2 (by have := (goodL_len zs).2; omega)
  clear hgd hr2 hwf
  go_wp2_with fail
  refine hof.mono ?_
  rintro e w3 ⟨v3, rfl, ho3, g3⟩
  have HG : Hid (Grow w w3) := (g1.trans g2).trans g3
  have HL : Hid (1 ≤ (goodL zs).length ∧ (goodL zs).length ≤ 8 ∧ ∀ x ∈ goodL zs, 0 ≤ x.p ∧ x.p ≤ 2) := ⟨(goodL_len zs).1, (goodL_len zs).2, goodL_bd zs⟩
  have hl1 : 1 ≤ (goodL zs).length := HL.out.1
  have hl8 : (goodL zs).length ≤ 8 := HL.out.2.1
  have hsz := (g1.trans g2).size
  generalize goodL zs = L at *
  obtain ⟨g, hg1, hg2, hog⟩ := own_block ho3 (by omega)
  obtain ⟨o, c, hvo⟩ := own_adr hog (by omega)
  subst hvo
  have HO : Hid (OwnF (fun i => i = g) w3 (.slice (some ⟨g, o, none⟩) L.length c) L ∧ w.heap.size ≤ g ∧ g < w3.heap.size) := ⟨hog, by omega, hg2⟩
  clear hof ho3 g1 g2 g3 hg1 hg2 hog hsz
  have har := fun w' => around_any hand (L.length : Int) w' hh (by omega) (by omega)
  have hab := around_bd hand (L.length : Int) (by omega)
  generalize around hand (L.length : Int) = K at har hab
  obtain ⟨h, hK⟩ : ∃ h : Nat, K = (h : Int) := ⟨K.toNat, by omega⟩
  subst hK
  have hhl : h < L.length := by omega
  have HH : Hid (h < L.length) := hhl
  clear hab
  go_wp2_with fail
  refine (har _).mono ?_
  rintro e w4 ⟨rfl, rfl⟩
  clear har
  have ht := turn_any g o L.length c L h w3 HO.out.1.rd hhl (by omega)
  have hV := vic_lt hhl
  have hM : (trn L h).2.length = L.length := trn_len hhl
  have HV : Hid (vic L h < L.length ∧ (L.any Fl.hit = true → (L.getD (vic L h) Fl.zero).hit = true)) := ⟨hV, fun ha => by
    obtain ⟨i, hi, hx⟩ := any_hit ha
    exact vic_hit hhl hi hx⟩
  generalize vic L h = V at *
  generalize hnd L h = Hd at *
  generalize decide (0 < (trn L h).1) = is at *
  generalize (trn L h).2 = M at *
  go_wp2_with fail
  refine ht.mono ?_
  rintro e w4 ⟨v4, rfl, ho4, g4⟩
  have HG4 : Hid (Grow w3 w4) := g4
  have HM : Hid (OwnF (fun i => w3.heap.size ≤ i) w4 v4 M) := ho4
  obtain ⟨a4, c4, hv4⟩ := ho4.shape
  rw [hM] at hv4
  subst hv4
  clear ht ho4 g4
  clear hM
  have HGW0 : Hid (Grow w w4) := HG.out.trans HG4.out
  cases is
  · skip
    have HGW := HGW0
    have hli := lives_any w4
    go_wp2_with fail
    refine hli.mono ?_
    rintro e w5 ⟨rfl, g5⟩
    have HF : Hid (Grow w w5) := HGW.out.trans g5
    clear hli g5
    go_wp2
    go_ret
    exact ⟨rfl, HF.out⟩
  · skip
    have hv1 : ¬ (L.length : Int) ≤ (V : Int) := by omega
    go_wp2
    go_loopg [11, 12] L.length (fun m ov iv wr => ∃ j : Nat, m = L.length - j ∧ j ≤ L.length ∧ ov = .bool ((L.take j).any Fl.hit) ∧ iv = .int .i64 j ∧ Hid (Grow w3 wr))
    case atStart => exact ⟨0, by omega, by omega, rfl, rfl, HG4⟩
    case round =>
      obtain ⟨j, hk, hj, rfl, rfl, HW⟩ := hrel
      by_cases hlt : j < L.length
      · have hle : (j : Int) < (L.length : Int) := by omega
        have HJ : Hid (j < L.length ∧ gk = L.length - j) := ⟨hlt, hk⟩
        have hw1 : IntKind.i64.wrap ((j : Int) + 1) = (j : Int) + 1 := by rw [IntKind.wrap_i64]; omega
        have fl := (rdF_in HO.out.1.rd hlt).grow HW.out
        have hpx : 0 ≤ (L.getD j Fl.zero).p := (HL.out.2.2 _ (by rw [getD_is hlt]; exact List.getElem_mem hlt)).1
        have hS := any_next hlt
        rw [hit_is hpx] at hS
        clear hk hj hlt hpx
        generalize L.getD j Fl.zero = x at *
        generalize (L.take j).any Fl.hit = ob at *
        obtain ⟨u, d, r, q⟩ := x
        simp only [] at hS
        obtain ⟨k0, k1, k2, k3⟩ := fl
        simp only [] at k0 k1 k2 k3
        cases ob
        · cases u
          · have HS : Hid ((L.take (j + 1)).any Fl.hit = true) := by rw [hS]; rfl
            clear hS
            go_wp2
            go_roundg (L.length - (j + 1))
            case measure => have := HJ.out; omega
            case rel => exact ⟨j + 1, rfl, HJ.out.1, by rw [HS.out], rfl, HW⟩
          · by_cases hq : q = 0
            · have hq0 : (q == 0) = true := by rw [hq]; rfl
              cases r
              · have HS : Hid ((L.take (j + 1)).any Fl.hit = true) := by rw [hS, hq0]; rfl
                clear hS hq
                go_wp2
                go_roundg (L.length - (j + 1))
                case measure => have := HJ.out; omega
                case rel => exact ⟨j + 1, rfl, HJ.out.1, by rw [HS.out], rfl, HW⟩
              · have HS : Hid ((L.take (j + 1)).any Fl.hit = false) := by rw [hS, hq0]; rfl
                clear hS hq
                go_wp2
                go_roundg (L.length - (j + 1))
                case measure => have := HJ.out; omega
                case rel => exact ⟨j + 1, rfl, HJ.out.1, by rw [HS.out], rfl, HW⟩
            · have hq0 : (q == 0) = false := beq_eq_false_iff_ne.2 hq
              have HS : Hid ((L.take (j + 1)).any Fl.hit = false) := by rw [hS, hq0]; rfl
              clear hS hq
              go_wp2
              go_roundg (L.length - (j + 1))
              case measure => have := HJ.out; omega
              case rel => exact ⟨j + 1, rfl, HJ.out.1, by rw [HS.out], rfl, HW⟩
        · have HS : Hid ((L.take (j + 1)).any Fl.hit = true) := by rw [hS]; rfl
          clear hS
          go_wp2
          go_roundg (L.length - (j + 1))
          case measure => have := HJ.out; omega
          case rel => exact ⟨j + 1, rfl, HJ.out.1, by rw [HS.out], rfl, HW⟩
      · have hle : ¬ (j : Int) < (L.length : Int) := by omega
        have hjl : L.take j = L := List.take_of_length_le (by omega)
        rw [hjl]
        have fl := (rdF_in HO.out.1.rd HV.out.1).grow HW.out
        have HX := HV.out.2
        have hv2 : (V : Int) < (L.length : Int) := by omega
        have HGW : Hid (Grow w wr) := HG.out.trans HW.out
        clear hk hj hlt hjl
        generalize L.getD V Fl.zero = x at *
        generalize L.any Fl.hit = ob at *
        obtain ⟨u, d, r, q⟩ := x
        obtain ⟨k0, k1, k2, k3⟩ := fl
        simp only [] at k0 k1 k2 k3
        cases ob
        · clear HX
          have hli := lives_any wr
          go_wp2_with fail
          refine hli.mono ?_
          rintro e w5 ⟨rfl, g5⟩
          have HF : Hid (Grow w w5) := HGW.out.trans g5
          clear hli g5
          go_wp2
          go_ret
          exact ⟨rfl, HF.out⟩
        · have hx := HX rfl
          clear HX
          cases u
          · clear hx
            have hli := lives_any wr
            go_wp2_with fail
            refine hli.mono ?_
            rintro e w5 ⟨rfl, g5⟩
            have HF : Hid (Grow w w5) := HGW.out.trans g5
            clear hli g5
            go_wp2
            go_ret
            exact ⟨rfl, HF.out⟩
          · cases r
            · clear hx
              have hli := lives_any wr
              go_wp2_with fail
              refine hli.mono ?_
              rintro e w5 ⟨rfl, g5⟩
              have HF : Hid (Grow w w5) := HGW.out.trans g5
              clear hli g5
              go_wp2
              go_ret
              exact ⟨rfl, HF.out⟩
            · simp [Fl.hit] at hx
end Go.Proofs.Ytabhbeknpchpkaa
