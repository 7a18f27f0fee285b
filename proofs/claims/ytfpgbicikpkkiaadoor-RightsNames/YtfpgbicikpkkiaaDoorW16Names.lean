/-
  The walk of RightsNames. Conditions: the theorem's own.
-/
import Derived.Test.YtfpgbicikpkkiaaDoorW16Has
import Derived.Test.YtfpgbicikpkkiaaDoorOpenT
namespace Go.Proofs.YtfpgbicikpkkiaaDoor
open Go.RowKit
set_option linter.unusedVariables false
set_option linter.unusedSimpArgs false

/-- the texts that are asked -/
def n7 : Nat → ByteArray
  | 0 => nm 0
  | 1 => nm 1
  | 2 => nm 2
  | 3 => nm 3
  | 4 => nm 0
  | 5 => nm 2
  | 6 => ⟨#[115, 101, 97]⟩
  | _ => ⟨#[]⟩
def kn (z : Int) : ByteArray := n7 (around z 7).toNat
theorem n7_cell (w : World) (t : TypeId) (j : Nat) (h : j < 7) : (w.alloc (.cells #[.string ⟨#[115, 101, 101]⟩, .string ⟨#[99, 104, 97, 110, 103, 101]⟩, .string ⟨#[107, 101, 101, 112]⟩, .string ⟨#[103, 105, 118, 101]⟩, .string ⟨#[115, 101, 101]⟩, .string ⟨#[107, 101, 101, 112]⟩, .string ⟨#[115, 101, 97]⟩] t)).cell? ⟨w.heap.size, j, none⟩ = some (.string (n7 j)) := by
  refine (World.cell?_alloc_new w _ _ j).trans ?_
  rcases (show j = 0 ∨ j = 1 ∨ j = 2 ∨ j = 3 ∨ j = 4 ∨ j = 5 ∨ j = 6 by omega) with rfl | rfl | rfl | rfl | rfl | rfl | rfl <;> rfl

set_option maxRecDepth 16000 in
set_option maxHeartbeats 8000000 in
theorem rightsNames_few (n : Int) (v1 v2 : Value) (ls : List ByteArray) (ks : List Int) (w : World) (p1 p2 : Nat → Prop) (hw : WT w) (hn : (Lit.int .i64 n).wf = true) (hl : RdV Value.string ⟨#[]⟩ p1 w v1 ls) (hks : RdV (Value.int .i64) 0 p2 w v2 ks) (hkw : ∀ z ∈ ks, (Lit.int .i64 z).wf = true) (hm : ls.length ≤ 5) :
    Calls Tryd.prog 6 #[.int .i64 n, v1, v2] w fun e w' => e = .returned (.bool true) ∧ Grow w w' := by
  obtain ⟨i0, hi, hz0, hz1, hz2⟩ := info_parts Tryd.infoSt
  have h1 := around_any n 16 w hn (by omega) (by omega)
  have b1 := around_bd n 16 (by omega)
  generalize around n 16 = x0 at h1 b1
  obtain ⟨s, rfl⟩ := Int.eq_ofNat_of_zero_le b1.1
  have hs : s < 16 := by omega
  have k1 := names_any s w hw hs
  have k2 := fun u => rnames_any s u hs
  have HPV : Hid (parV (nmL s 4) = s ∧ parE (nmL s 4) = 0) := ⟨(parV_yes (allN_nmL s 4 (by omega))).trans (parS_all s hs), parE_yes (allN_nmL s 4 (by omega))⟩
  have hll := hl.len
  have hkl := hks.len
  unfold maxLen at hll hkl
  have HW : Hid (WT w) := hw
  have HK : Hid (RdV (Value.int .i64) 0 p2 w v2 ks ∧ ∀ z ∈ ks, (Lit.int .i64 z).wf = true) := ⟨hks, hkw⟩
  have HL : Hid (RdV Value.string ⟨#[]⟩ p1 w v1 ls) := hl
  obtain ⟨a1, c1, rfl⟩ := hl.shape
  obtain ⟨a0, c0, rfl⟩ := hks.shape
  have hcap := hl.caps
  have HCAP : Hid (ls.length ≤ c1 ∧ c1 ≤ maxLen) := ⟨hcap.2.1, hcap.2.2⟩
  clear hl hks hkw hn b1 hw hs hcap
  go_enter Tryd.func6, Tryd.ntmps6
  go_wp2_with fail
  refine h1.mono ?_
  rintro e w1 ⟨rfl, rfl⟩
  clear h1
  go_wp2_with fail
  refine k1.mono ?_
  rintro e w1 ⟨vn, rfl, o1, g1⟩
  have hp := parse_any w1 _ _ _ (HW.out.grow g1) o1.rd
  rw [HPV.out.1, HPV.out.2] at hp
  have hst : ∀ (u : World) (v : Value) (q : Nat → Prop), Grow w1 u → RdV Value.string ⟨#[]⟩ q u v (nmL s 4) → Calls Tryd.prog 21 #[vn, v] u fun e w' => e = .returned (.bool true) ∧ Grow u w' := fun u v q g h => by
    have k := samet_any vn v _ _ _ q u (o1.rd.grow g) h
    rw [show decide (nmL s 4 = nmL s 4) = true from decide_eq_true rfl] at k
    exact k
  have HG1 : Hid (Grow w w1) := g1
  obtain ⟨an, cn, rfl⟩ := o1.shape
  generalize (nmL s 4).length = NN at *
  clear k1 o1 g1
  go_wp2_with fail
  refine hp.mono ?_
  rintro e w2 ⟨rfl, g2⟩
  have HG2 : Hid (Grow w w2 ∧ Grow w1 w2) := ⟨HG1.out.trans g2, g2⟩
  clear hp g2
  go_wp2_with fail
  refine (k2 w2).mono ?_
  rintro e w3 ⟨vr, rfl, o3, g3⟩
  have hst3 := hst w3 vr _ (HG2.out.2.trans g3) o3.rd
  have HG3 : Hid (Grow w w3) := HG2.out.1.trans g3
  obtain ⟨ar, cr, er⟩ := o3.shape
  generalize (nmL s 4).length = NR at er
  clear hst k2 o3 g3 HPV HG1 HG2
  subst er
  go_wp2_with fail
  refine hst3.mono ?_
  rintro e w4 ⟨rfl, g4⟩
  have HG4 : Hid (Grow w w4) := HG3.out.trans g4
  clear hst3 g4 HG3
  have hm' : (ls.length : Int) ≤ 5 := by omega
  have hm2 : (ls.length : Int) ≤ (c1 : Int) := by have := HCAP.out.1; omega
  obtain ⟨LF, hLF⟩ : ∃ LF, LF = ls := ⟨_, rfl⟩
  have HF : Hid (RdV Value.string ⟨#[]⟩ p1 w (.slice a1 ls.length c1) LF ∧ LF.length ≤ 1000) := by rw [hLF]; exact ⟨HL.out, by omega⟩
  clear hLF
  go_wp2
  go_loopg [12, 13] ks.length (fun k v i wr => ∃ j : Nat, k = ks.length - j ∧ j ≤ ks.length ∧ j ≤ 5 ∧ i = .int .i64 j ∧ Hid (OwnV Value.string ⟨#[]⟩ (fun i => w.heap.size ≤ i) wr v ((ks.map kn).take j) ∧ Grow w wr))
  case atStart => exact ⟨0, rfl, Nat.zero_le _, Nat.zero_le _, rfl, OwnV.nil _ _ _ _ _, HG4.out⟩
  case round =>
    obtain ⟨j, hk, hj, hj5, rfl, HT⟩ := hrel
    by_cases hlt : j < ks.length
    · have hlt' : (j : Int) < (ks.length : Int) := by omega
      by_cases h5 : j < 5
      · have h5' : (j : Int) < 5 := by omega
        have HJ : Hid (j < ks.length ∧ j < 5 ∧ gk = ks.length - j) := ⟨hlt, h5, hk⟩
        obtain ⟨bb, oo, e1, -, hc⟩ := (HK.out.1.grow HT.out.2).addr (by omega)
        have f1 := hc j hlt
        have hwf := HK.out.2 (ks.getD j 0) (by simp only [List.getD, List.getElem?_eq_getElem hlt, Option.getD_some]; exact List.getElem_mem hlt)
        have HS : Hid ((ks.map kn).take (j + 1) = (ks.map kn).take j ++ [kn (ks.getD j 0)]) := by
          show _ = _
          rw [← List.map_take, ← List.map_take, take_snoc ks 0 j hlt, List.map_append]
          rfl
        have HLB : Hid (((ks.map kn).take j).length ≤ 5) := by show _ ≤ _; rw [List.length_take]; omega
        generalize ks.getD j 0 = z at f1 hwf HS
        have har := fun u => around_any z 7 u hwf (by omega) (by omega)
        have b7 := around_bd z 7 (by omega)
        unfold kn at HS
        generalize around z 7 = r0 at har b7 HS
        obtain ⟨r, rfl⟩ := Int.eq_ofNat_of_zero_le b7.1
        have hr7 : r < 7 := by omega
        have hr7' : (r : Int) < 7 := by omega
        have HS : Hid ((ks.map kn).take (j + 1) = (ks.map kn).take j ++ [n7 r]) := HS
        have f7 := n7_cell wr 9 r hr7
        generalize n7 r = y at f7 HS
        have g7 : Grow w (wr.alloc (.cells #[.string ⟨#[115, 101, 101]⟩, .string ⟨#[99, 104, 97, 110, 103, 101]⟩, .string ⟨#[107, 101, 101, 112]⟩, .string ⟨#[103, 105, 118, 101]⟩, .string ⟨#[115, 101, 101]⟩, .string ⟨#[107, 101, 101, 112]⟩, .string ⟨#[115, 101, 97]⟩] 9)) := HT.out.2.trans ((Grow.refl wr).alloc _)
        have ho := HT.out.1.grow ((Grow.refl wr).alloc (.cells #[.string ⟨#[115, 101, 101]⟩, .string ⟨#[99, 104, 97, 110, 103, 101]⟩, .string ⟨#[107, 101, 101, 112]⟩, .string ⟨#[103, 105, 118, 101]⟩, .string ⟨#[115, 101, 101]⟩, .string ⟨#[107, 101, 101, 112]⟩, .string ⟨#[115, 101, 97]⟩] 9))
        have f1a := grow_cell ((Grow.refl wr).alloc (.cells #[.string ⟨#[115, 101, 101]⟩, .string ⟨#[99, 104, 97, 110, 103, 101]⟩, .string ⟨#[107, 101, 101, 112]⟩, .string ⟨#[103, 105, 118, 101]⟩, .string ⟨#[115, 101, 101]⟩, .string ⟨#[107, 101, 101, 112]⟩, .string ⟨#[115, 101, 97]⟩] 9)) f1
        clear hc hk hj hj5 hlt h5 hwf b7 f1
        subst e1
        go_wp2_with fail
        generalize wr.alloc (.cells #[.string ⟨#[115, 101, 101]⟩, .string ⟨#[99, 104, 97, 110, 103, 101]⟩, .string ⟨#[107, 101, 101, 112]⟩, .string ⟨#[103, 105, 118, 101]⟩, .string ⟨#[115, 101, 101]⟩, .string ⟨#[107, 101, 101, 112]⟩, .string ⟨#[115, 101, 97]⟩] 9) = W7 at *
        refine (har W7).mono ?_
        rintro e w7 ⟨rfl, rfl⟩
        clear har f1a
        have ho7 := ho.grow ((Grow.refl W7).alloc (.cells #[Value.string y] 9))
        go_wp2_with (at_builtin; refine wpList_appV (f := Value.string) (d := ⟨#[]⟩) rfl (.tmp 57) (.tmp 66) 38 38 rfl i0 (Value.string ⟨#[]⟩) 16 Tryd.underlying38 hi hz0 hz1 hz2 rfl rfl rfl ho7 (Src.oneV (w := W7) Tryd.underlying38 Value.string y rfl 9) (by have := HLB.out; simp only [maxLen, List.length_singleton]; omega) (by have := HLB.out; simp only [List.length_singleton]; omega) ?_)
        intro v' w' ho' hu'
        have hgs := g7.size
        have hsz : (W7.alloc (.cells #[Value.string y] 9)).heap.size = W7.heap.size + 1 := World.size_alloc _ _
        have HF2 : Hid (OwnV Value.string ⟨#[]⟩ (fun i => w.heap.size ≤ i) w' v' ((ks.map kn).take (j + 1)) ∧ Grow w w') :=
          ⟨by rw [HS.out]; exact ho'.mono (fun i _ hi => hi.elim (fun h => h) (fun h => by omega)), UpdS.new (g7.alloc _) hu' (fun i hi => hi)⟩
        clear ho' hu' hgs hsz ho ho7 f7 g7
        go_wp2
        go_roundg (ks.length - (j + 1))
        case measure => have := HJ.out; omega
        case rel => exact ⟨j + 1, rfl, by have := HJ.out; omega, by have := HJ.out; omega, by go_num, HF2.out⟩
      · have h5' : ¬ (j : Int) < 5 := by omega
        have hj5b : j ≤ 5 := hj5
        clear hk hj hlt h5
        have g5 : Grow w (wr.alloc (.cells #[.slice a1 ls.length c1, u12] 38)) := HT.out.2.trans ((Grow.refl wr).alloc _)
        have hKl : ((ks.map kn).take j).length ≤ 1000 := by rw [List.length_take]; omega
        have hK := HT.out.1.rd
        obtain ⟨a2, c2, e2⟩ := hK.shape
        generalize (ks.map kn).take j = LK at hK e2 hKl
        have rF := HF.out.1.grow HT.out.2
        have cA : (wr.alloc (.cells #[.slice a1 ls.length c1, u12] 38)).cell? ⟨wr.heap.size, 0, none⟩ = some (.slice a1 ls.length c1) := World.cell?_alloc_new wr _ _ 0
        have cB : (wr.alloc (.cells #[.slice a1 ls.length c1, u12] 38)).cell? ⟨wr.heap.size, 1, none⟩ = some u12 := World.cell?_alloc_new wr _ _ 1
        have rF5 := rF.grow ((Grow.refl wr).alloc (.cells #[.slice a1 ls.length c1, u12] 38))
        have rK5 := hK.grow ((Grow.refl wr).alloc (.cells #[.slice a1 ls.length c1, u12] 38))
        generalize LK.length = NK at e2 hKl
        clear HT rF hK
        subst e2
        go_wp2
        generalize wr.alloc (.cells #[.slice a1 ls.length c1, .slice a2 NK c2] 38) = W5 at *
        have HC : Hid (W5.cell? ⟨wr.heap.size, 0, none⟩ = some (.slice a1 ls.length c1) ∧ W5.cell? ⟨wr.heap.size, 1, none⟩ = some (.slice a2 NK c2) ∧ RdV Value.string ⟨#[]⟩ p1 W5 (.slice a1 ls.length c1) LF ∧ RdV Value.string ⟨#[]⟩ (fun i => w.heap.size ≤ i) W5 (.slice a2 NK c2) LK ∧ NK ≤ 1000 ∧ Grow w W5) := ⟨cA, cB, rF5, rK5, hKl, g5⟩
        clear cA cB rF5 rK5 hKl g5
        obtain ⟨W4, rfl⟩ : ∃ W4, W4 = wr := ⟨_, rfl⟩
        go_loopg [15] 2 (fun k i wr => ∃ m : Nat, k = 2 - m ∧ m ≤ 2 ∧ i = .int .i64 m ∧ Hid (Grow W5 wr))
        case atStart => exact ⟨0, rfl, Nat.zero_le _, rfl, Grow.refl _⟩
        case round =>
          obtain ⟨m, hk, hm, rfl, HGr⟩ := hrel
          have HG5 : Hid (Grow w wr ∧ Grow W5 wr) := ⟨HC.out.2.2.2.2.2.trans HGr.out, HGr.out⟩
          rcases (show m = 0 ∨ m = 1 ∨ m = 2 by omega) with rfl | rfl | rfl
          · have f0 := grow_cell HGr.out HC.out.1
            have q0 := HC.out.2.2.1.grow HGr.out
            have p0 := parse_any wr _ _ _ (HW.out.grow HG5.out.1) q0
            have r0 := fun u (g : Grow wr u) => rparse_any u _ _ _ (q0.grow g) HF.out.2
            clear q0 HGr
            by_cases hA : allN LF = true
            · have hv : parV LF = parS LF := parV_yes hA
              have he : parE LF = 0 := parE_yes hA
              have hr : rparV LF = (parS LF : Int) := rparV_yes hA
              rw [hv, he] at p0
              rw [hr] at r0
              generalize parS LF = z at p0 r0
              have hz0 : 0 ≤ (z : Int) := by omega
              clear hA hv he hr
              go_wp2_with fail
              refine p0.mono ?_
              rintro e w6 ⟨rfl, g6⟩
              have r6 := r0 w6 g6
              have f6 := grow_cell g6 f0
              have HG6 : Hid (Grow w w6 ∧ Grow W5 w6) := ⟨HG5.out.1.trans g6, HG5.out.2.trans g6⟩
              clear p0 r0 g6
              go_wp2_with fail
              refine r6.mono ?_
              rintro e w7 ⟨rfl, g7⟩
              have HG7 : Hid (Grow w w7 ∧ Grow W5 w7) := ⟨HG6.out.1.trans g7, HG6.out.2.trans g7⟩
              clear r6 g7 f6 f0
              go_wp2
              go_roundg (2 - (0 + 1))
              case measure => omega
              case rel => exact ⟨0 + 1, rfl, by omega, by go_num, HG7.out.2⟩
            · have hA' : allN LF = false := by cases h : allN LF with
                | true => exact absurd h hA
                | false => rfl
              have hv : parV LF = 0 := parV_no hA'
              have he : parE LF = 2 := parE_no hA'
              have hr : rparV LF = -1 := rparV_no hA'
              rw [hv, he] at p0
              rw [hr] at r0
              clear hA hA' hv he hr
              go_wp2_with fail
              refine p0.mono ?_
              rintro e w6 ⟨rfl, g6⟩
              have r6 := r0 w6 g6
              have f6 := grow_cell g6 f0
              have HG6 : Hid (Grow w w6 ∧ Grow W5 w6) := ⟨HG5.out.1.trans g6, HG5.out.2.trans g6⟩
              clear p0 r0 g6
              go_wp2_with fail
              refine r6.mono ?_
              rintro e w7 ⟨rfl, g7⟩
              have HG7 : Hid (Grow w w7 ∧ Grow W5 w7) := ⟨HG6.out.1.trans g7, HG6.out.2.trans g7⟩
              clear r6 g7 f6 f0
              go_wp2
              go_roundg (2 - (0 + 1))
              case measure => omega
              case rel => exact ⟨0 + 1, rfl, by omega, by go_num, HG7.out.2⟩
          · have f1 := grow_cell HGr.out HC.out.2.1
            have q1 := HC.out.2.2.2.1.grow HGr.out
            have hNK : LK.length ≤ 1000 := by have := q1.caps; have := HC.out; omega
            have p1 := parse_any wr _ _ _ (HW.out.grow HG5.out.1) q1
            have r1 := fun u (g : Grow wr u) => rparse_any u _ _ _ (q1.grow g) hNK
            clear q1 HGr hNK
            by_cases hA : allN LK = true
            · have hv : parV LK = parS LK := parV_yes hA
              have he : parE LK = 0 := parE_yes hA
              have hr : rparV LK = (parS LK : Int) := rparV_yes hA
              rw [hv, he] at p1
              rw [hr] at r1
              generalize parS LK = z at p1 r1
              have hz0 : 0 ≤ (z : Int) := by omega
              clear hA hv he hr
              go_wp2_with fail
              refine p1.mono ?_
              rintro e w6 ⟨rfl, g6⟩
              have r6 := r1 w6 g6
              have f6 := grow_cell g6 f1
              have HG6 : Hid (Grow w w6 ∧ Grow W5 w6) := ⟨HG5.out.1.trans g6, HG5.out.2.trans g6⟩
              clear p1 r1 g6
              go_wp2_with fail
              refine r6.mono ?_
              rintro e w7 ⟨rfl, g7⟩
              have HG7 : Hid (Grow w w7 ∧ Grow W5 w7) := ⟨HG6.out.1.trans g7, HG6.out.2.trans g7⟩
              clear r6 g7 f6 f1
              go_wp2
              go_roundg (2 - (1 + 1))
              case measure => omega
              case rel => exact ⟨1 + 1, rfl, by omega, by go_num, HG7.out.2⟩
            · have hA' : allN LK = false := by cases h : allN LK with
                | true => exact absurd h hA
                | false => rfl
              have hv : parV LK = 0 := parV_no hA'
              have he : parE LK = 2 := parE_no hA'
              have hr : rparV LK = -1 := rparV_no hA'
              rw [hv, he] at p1
              rw [hr] at r1
              clear hA hA' hv he hr
              go_wp2_with fail
              refine p1.mono ?_
              rintro e w6 ⟨rfl, g6⟩
              have r6 := r1 w6 g6
              have f6 := grow_cell g6 f1
              have HG6 : Hid (Grow w w6 ∧ Grow W5 w6) := ⟨HG5.out.1.trans g6, HG5.out.2.trans g6⟩
              clear p1 r1 g6
              go_wp2_with fail
              refine r6.mono ?_
              rintro e w7 ⟨rfl, g7⟩
              have HG7 : Hid (Grow w w7 ∧ Grow W5 w7) := ⟨HG6.out.1.trans g7, HG6.out.2.trans g7⟩
              clear r6 g7 f6 f1
              go_wp2
              go_roundg (2 - (1 + 1))
              case measure => omega
              case rel => exact ⟨1 + 1, rfl, by omega, by go_num, HG7.out.2⟩
          · have hlv := lives_any wr (HW.out.grow HG5.out.1)
            clear HGr
            go_wp2_with fail
            refine hlv.mono ?_
            rintro e w6 ⟨rfl, g6⟩
            go_wp2
            go_ret
            exact ⟨rfl, HG5.out.1.trans g6⟩
    · have hlt' : ¬ (j : Int) < (ks.length : Int) := by omega
      have hj5b : j ≤ 5 := hj5
      clear hk hj hlt
      have g5 : Grow w (wr.alloc (.cells #[.slice a1 ls.length c1, u12] 38)) := HT.out.2.trans ((Grow.refl wr).alloc _)
      have hKl : ((ks.map kn).take j).length ≤ 1000 := by rw [List.length_take]; omega
      have hK := HT.out.1.rd
      obtain ⟨a2, c2, e2⟩ := hK.shape
      generalize (ks.map kn).take j = LK at hK e2 hKl
      have rF := HF.out.1.grow HT.out.2
      have cA : (wr.alloc (.cells #[.slice a1 ls.length c1, u12] 38)).cell? ⟨wr.heap.size, 0, none⟩ = some (.slice a1 ls.length c1) := World.cell?_alloc_new wr _ _ 0
      have cB : (wr.alloc (.cells #[.slice a1 ls.length c1, u12] 38)).cell? ⟨wr.heap.size, 1, none⟩ = some u12 := World.cell?_alloc_new wr _ _ 1
      have rF5 := rF.grow ((Grow.refl wr).alloc (.cells #[.slice a1 ls.length c1, u12] 38))
      have rK5 := hK.grow ((Grow.refl wr).alloc (.cells #[.slice a1 ls.length c1, u12] 38))
      generalize LK.length = NK at e2 hKl
      clear HT rF hK
      subst e2
      go_wp2
      generalize wr.alloc (.cells #[.slice a1 ls.length c1, .slice a2 NK c2] 38) = W5 at *
      have HC : Hid (W5.cell? ⟨wr.heap.size, 0, none⟩ = some (.slice a1 ls.length c1) ∧ W5.cell? ⟨wr.heap.size, 1, none⟩ = some (.slice a2 NK c2) ∧ RdV Value.string ⟨#[]⟩ p1 W5 (.slice a1 ls.length c1) LF ∧ RdV Value.string ⟨#[]⟩ (fun i => w.heap.size ≤ i) W5 (.slice a2 NK c2) LK ∧ NK ≤ 1000 ∧ Grow w W5) := ⟨cA, cB, rF5, rK5, hKl, g5⟩
      clear cA cB rF5 rK5 hKl g5
      obtain ⟨W4, rfl⟩ : ∃ W4, W4 = wr := ⟨_, rfl⟩
      go_loopg [15] 2 (fun k i wr => ∃ m : Nat, k = 2 - m ∧ m ≤ 2 ∧ i = .int .i64 m ∧ Hid (Grow W5 wr))
      case atStart => exact ⟨0, rfl, Nat.zero_le _, rfl, Grow.refl _⟩
      case round =>
        obtain ⟨m, hk, hm, rfl, HGr⟩ := hrel
        have HG5 : Hid (Grow w wr ∧ Grow W5 wr) := ⟨HC.out.2.2.2.2.2.trans HGr.out, HGr.out⟩
        rcases (show m = 0 ∨ m = 1 ∨ m = 2 by omega) with rfl | rfl | rfl
        · have f0 := grow_cell HGr.out HC.out.1
          have q0 := HC.out.2.2.1.grow HGr.out
          have p0 := parse_any wr _ _ _ (HW.out.grow HG5.out.1) q0
          have r0 := fun u (g : Grow wr u) => rparse_any u _ _ _ (q0.grow g) HF.out.2
          clear q0 HGr
          by_cases hA : allN LF = true
          · have hv : parV LF = parS LF := parV_yes hA
            have he : parE LF = 0 := parE_yes hA
            have hr : rparV LF = (parS LF : Int) := rparV_yes hA
            rw [hv, he] at p0
            rw [hr] at r0
            generalize parS LF = z at p0 r0
            have hz0 : 0 ≤ (z : Int) := by omega
            clear hA hv he hr
            go_wp2_with fail
            refine p0.mono ?_
            rintro e w6 ⟨rfl, g6⟩
            have r6 := r0 w6 g6
            have f6 := grow_cell g6 f0
            have HG6 : Hid (Grow w w6 ∧ Grow W5 w6) := ⟨HG5.out.1.trans g6, HG5.out.2.trans g6⟩
            clear p0 r0 g6
            go_wp2_with fail
            refine r6.mono ?_
            rintro e w7 ⟨rfl, g7⟩
            have HG7 : Hid (Grow w w7 ∧ Grow W5 w7) := ⟨HG6.out.1.trans g7, HG6.out.2.trans g7⟩
            clear r6 g7 f6 f0
            go_wp2
            go_roundg (2 - (0 + 1))
            case measure => omega
            case rel => exact ⟨0 + 1, rfl, by omega, by go_num, HG7.out.2⟩
          · have hA' : allN LF = false := by cases h : allN LF with
              | true => exact absurd h hA
              | false => rfl
            have hv : parV LF = 0 := parV_no hA'
            have he : parE LF = 2 := parE_no hA'
            have hr : rparV LF = -1 := rparV_no hA'
            rw [hv, he] at p0
            rw [hr] at r0
            clear hA hA' hv he hr
            go_wp2_with fail
            refine p0.mono ?_
            rintro e w6 ⟨rfl, g6⟩
            have r6 := r0 w6 g6
            have f6 := grow_cell g6 f0
            have HG6 : Hid (Grow w w6 ∧ Grow W5 w6) := ⟨HG5.out.1.trans g6, HG5.out.2.trans g6⟩
            clear p0 r0 g6
            go_wp2_with fail
            refine r6.mono ?_
            rintro e w7 ⟨rfl, g7⟩
            have HG7 : Hid (Grow w w7 ∧ Grow W5 w7) := ⟨HG6.out.1.trans g7, HG6.out.2.trans g7⟩
            clear r6 g7 f6 f0
            go_wp2
            go_roundg (2 - (0 + 1))
            case measure => omega
            case rel => exact ⟨0 + 1, rfl, by omega, by go_num, HG7.out.2⟩
        · have f1 := grow_cell HGr.out HC.out.2.1
          have q1 := HC.out.2.2.2.1.grow HGr.out
          have hNK : LK.length ≤ 1000 := by have := q1.caps; have := HC.out; omega
          have p1 := parse_any wr _ _ _ (HW.out.grow HG5.out.1) q1
          have r1 := fun u (g : Grow wr u) => rparse_any u _ _ _ (q1.grow g) hNK
          clear q1 HGr hNK
          by_cases hA : allN LK = true
          · have hv : parV LK = parS LK := parV_yes hA
            have he : parE LK = 0 := parE_yes hA
            have hr : rparV LK = (parS LK : Int) := rparV_yes hA
            rw [hv, he] at p1
            rw [hr] at r1
            generalize parS LK = z at p1 r1
            have hz0 : 0 ≤ (z : Int) := by omega
            clear hA hv he hr
            go_wp2_with fail
            refine p1.mono ?_
            rintro e w6 ⟨rfl, g6⟩
            have r6 := r1 w6 g6
            have f6 := grow_cell g6 f1
            have HG6 : Hid (Grow w w6 ∧ Grow W5 w6) := ⟨HG5.out.1.trans g6, HG5.out.2.trans g6⟩
            clear p1 r1 g6
            go_wp2_with fail
            refine r6.mono ?_
            rintro e w7 ⟨rfl, g7⟩
            have HG7 : Hid (Grow w w7 ∧ Grow W5 w7) := ⟨HG6.out.1.trans g7, HG6.out.2.trans g7⟩
            clear r6 g7 f6 f1
            go_wp2
            go_roundg (2 - (1 + 1))
            case measure => omega
            case rel => exact ⟨1 + 1, rfl, by omega, by go_num, HG7.out.2⟩
          · have hA' : allN LK = false := by cases h : allN LK with
              | true => exact absurd h hA
              | false => rfl
            have hv : parV LK = 0 := parV_no hA'
            have he : parE LK = 2 := parE_no hA'
            have hr : rparV LK = -1 := rparV_no hA'
            rw [hv, he] at p1
            rw [hr] at r1
            clear hA hA' hv he hr
            go_wp2_with fail
            refine p1.mono ?_
            rintro e w6 ⟨rfl, g6⟩
            have r6 := r1 w6 g6
            have f6 := grow_cell g6 f1
            have HG6 : Hid (Grow w w6 ∧ Grow W5 w6) := ⟨HG5.out.1.trans g6, HG5.out.2.trans g6⟩
            clear p1 r1 g6
            go_wp2_with fail
            refine r6.mono ?_
            rintro e w7 ⟨rfl, g7⟩
            have HG7 : Hid (Grow w w7 ∧ Grow W5 w7) := ⟨HG6.out.1.trans g7, HG6.out.2.trans g7⟩
            clear r6 g7 f6 f1
            go_wp2
            go_roundg (2 - (1 + 1))
            case measure => omega
            case rel => exact ⟨1 + 1, rfl, by omega, by go_num, HG7.out.2⟩
        · have hlv := lives_any wr (HW.out.grow HG5.out.1)
          clear HGr
          go_wp2_with fail
          refine hlv.mono ?_
          rintro e w6 ⟨rfl, g6⟩
          go_wp2
          go_ret
          exact ⟨rfl, HG5.out.1.trans g6⟩

set_option maxRecDepth 16000 in
set_option maxHeartbeats 8000000 in
theorem rightsNames_more (n : Int) (v1 v2 : Value) (ls : List ByteArray) (ks : List Int) (w : World) (p1 p2 : Nat → Prop) (hw : WT w) (hn : (Lit.int .i64 n).wf = true) (hl : RdV Value.string ⟨#[]⟩ p1 w v1 ls) (hks : RdV (Value.int .i64) 0 p2 w v2 ks) (hkw : ∀ z ∈ ks, (Lit.int .i64 z).wf = true) (hm : ¬ ls.length ≤ 5) :
    Calls Tryd.prog 6 #[.int .i64 n, v1, v2] w fun e w' => e = .returned (.bool true) ∧ Grow w w' := by
  obtain ⟨i0, hi, hz0, hz1, hz2⟩ := info_parts Tryd.infoSt
  have h1 := around_any n 16 w hn (by omega) (by omega)
  have b1 := around_bd n 16 (by omega)
  generalize around n 16 = x0 at h1 b1
  obtain ⟨s, rfl⟩ := Int.eq_ofNat_of_zero_le b1.1
  have hs : s < 16 := by omega
  have k1 := names_any s w hw hs
  have k2 := fun u => rnames_any s u hs
  have HPV : Hid (parV (nmL s 4) = s ∧ parE (nmL s 4) = 0) := ⟨(parV_yes (allN_nmL s 4 (by omega))).trans (parS_all s hs), parE_yes (allN_nmL s 4 (by omega))⟩
  have hll := hl.len
  have hkl := hks.len
  unfold maxLen at hll hkl
  have HW : Hid (WT w) := hw
  have HK : Hid (RdV (Value.int .i64) 0 p2 w v2 ks ∧ ∀ z ∈ ks, (Lit.int .i64 z).wf = true) := ⟨hks, hkw⟩
  have HL : Hid (RdV Value.string ⟨#[]⟩ p1 w v1 ls) := hl
  obtain ⟨a1, c1, rfl⟩ := hl.shape
  obtain ⟨a0, c0, rfl⟩ := hks.shape
  have hcap := hl.caps
  have HCAP : Hid (ls.length ≤ c1 ∧ c1 ≤ maxLen) := ⟨hcap.2.1, hcap.2.2⟩
  clear hl hks hkw hn b1 hw hs hcap
  go_enter Tryd.func6, Tryd.ntmps6
  go_wp2_with fail
  refine h1.mono ?_
  rintro e w1 ⟨rfl, rfl⟩
  clear h1
  go_wp2_with fail
  refine k1.mono ?_
  rintro e w1 ⟨vn, rfl, o1, g1⟩
  have hp := parse_any w1 _ _ _ (HW.out.grow g1) o1.rd
  rw [HPV.out.1, HPV.out.2] at hp
  have hst : ∀ (u : World) (v : Value) (q : Nat → Prop), Grow w1 u → RdV Value.string ⟨#[]⟩ q u v (nmL s 4) → Calls Tryd.prog 21 #[vn, v] u fun e w' => e = .returned (.bool true) ∧ Grow u w' := fun u v q g h => by
    have k := samet_any vn v _ _ _ q u (o1.rd.grow g) h
    rw [show decide (nmL s 4 = nmL s 4) = true from decide_eq_true rfl] at k
    exact k
  have HG1 : Hid (Grow w w1) := g1
  obtain ⟨an, cn, rfl⟩ := o1.shape
  generalize (nmL s 4).length = NN at *
  clear k1 o1 g1
  go_wp2_with fail
  refine hp.mono ?_
  rintro e w2 ⟨rfl, g2⟩
  have HG2 : Hid (Grow w w2 ∧ Grow w1 w2) := ⟨HG1.out.trans g2, g2⟩
  clear hp g2
  go_wp2_with fail
  refine (k2 w2).mono ?_
  rintro e w3 ⟨vr, rfl, o3, g3⟩
  have hst3 := hst w3 vr _ (HG2.out.2.trans g3) o3.rd
  have HG3 : Hid (Grow w w3) := HG2.out.1.trans g3
  obtain ⟨ar, cr, er⟩ := o3.shape
  generalize (nmL s 4).length = NR at er
  clear hst k2 o3 g3 HPV HG1 HG2
  subst er
  go_wp2_with fail
  refine hst3.mono ?_
  rintro e w4 ⟨rfl, g4⟩
  have HG4 : Hid (Grow w w4) := HG3.out.trans g4
  clear hst3 g4 HG3
  have hm' : ¬ (ls.length : Int) ≤ 5 := by omega
  have hm3 : (5 : Int) ≤ (ls.length : Int) := by omega
  have hm2 : (5 : Int) ≤ (c1 : Int) := by have := HCAP.out.1; omega
  have hm4 : 5 ≤ c1 := by omega
  obtain ⟨LF, hLF⟩ : ∃ LF, LF = ls.take 5 := ⟨_, rfl⟩
  have HF : Hid (RdV Value.string ⟨#[]⟩ p1 w (.slice a1 5 c1) LF ∧ LF.length ≤ 1000) := by rw [hLF]; exact ⟨HL.out.take 5 (by omega), by rw [List.length_take]; omega⟩
  clear hLF
  go_wp2
  go_loopg [12, 13] ks.length (fun k v i wr => ∃ j : Nat, k = ks.length - j ∧ j ≤ ks.length ∧ j ≤ 5 ∧ i = .int .i64 j ∧ Hid (OwnV Value.string ⟨#[]⟩ (fun i => w.heap.size ≤ i) wr v ((ks.map kn).take j) ∧ Grow w wr))
  case atStart => exact ⟨0, rfl, Nat.zero_le _, Nat.zero_le _, rfl, OwnV.nil _ _ _ _ _, HG4.out⟩
  case round =>
    obtain ⟨j, hk, hj, hj5, rfl, HT⟩ := hrel
    by_cases hlt : j < ks.length
    · have hlt' : (j : Int) < (ks.length : Int) := by omega
      by_cases h5 : j < 5
      · have h5' : (j : Int) < 5 := by omega
        have HJ : Hid (j < ks.length ∧ j < 5 ∧ gk = ks.length - j) := ⟨hlt, h5, hk⟩
        obtain ⟨bb, oo, e1, -, hc⟩ := (HK.out.1.grow HT.out.2).addr (by omega)
        have f1 := hc j hlt
        have hwf := HK.out.2 (ks.getD j 0) (by simp only [List.getD, List.getElem?_eq_getElem hlt, Option.getD_some]; exact List.getElem_mem hlt)
        have HS : Hid ((ks.map kn).take (j + 1) = (ks.map kn).take j ++ [kn (ks.getD j 0)]) := by
          show _ = _
          rw [← List.map_take, ← List.map_take, take_snoc ks 0 j hlt, List.map_append]
          rfl
        have HLB : Hid (((ks.map kn).take j).length ≤ 5) := by show _ ≤ _; rw [List.length_take]; omega
        generalize ks.getD j 0 = z at f1 hwf HS
        have har := fun u => around_any z 7 u hwf (by omega) (by omega)
        have b7 := around_bd z 7 (by omega)
        unfold kn at HS
        generalize around z 7 = r0 at har b7 HS
        obtain ⟨r, rfl⟩ := Int.eq_ofNat_of_zero_le b7.1
        have hr7 : r < 7 := by omega
        have hr7' : (r : Int) < 7 := by omega
        have HS : Hid ((ks.map kn).take (j + 1) = (ks.map kn).take j ++ [n7 r]) := HS
        have f7 := n7_cell wr 9 r hr7
        generalize n7 r = y at f7 HS
        have g7 : Grow w (wr.alloc (.cells #[.string ⟨#[115, 101, 101]⟩, .string ⟨#[99, 104, 97, 110, 103, 101]⟩, .string ⟨#[107, 101, 101, 112]⟩, .string ⟨#[103, 105, 118, 101]⟩, .string ⟨#[115, 101, 101]⟩, .string ⟨#[107, 101, 101, 112]⟩, .string ⟨#[115, 101, 97]⟩] 9)) := HT.out.2.trans ((Grow.refl wr).alloc _)
        have ho := HT.out.1.grow ((Grow.refl wr).alloc (.cells #[.string ⟨#[115, 101, 101]⟩, .string ⟨#[99, 104, 97, 110, 103, 101]⟩, .string ⟨#[107, 101, 101, 112]⟩, .string ⟨#[103, 105, 118, 101]⟩, .string ⟨#[115, 101, 101]⟩, .string ⟨#[107, 101, 101, 112]⟩, .string ⟨#[115, 101, 97]⟩] 9))
        have f1a := grow_cell ((Grow.refl wr).alloc (.cells #[.string ⟨#[115, 101, 101]⟩, .string ⟨#[99, 104, 97, 110, 103, 101]⟩, .string ⟨#[107, 101, 101, 112]⟩, .string ⟨#[103, 105, 118, 101]⟩, .string ⟨#[115, 101, 101]⟩, .string ⟨#[107, 101, 101, 112]⟩, .string ⟨#[115, 101, 97]⟩] 9)) f1
        clear hc hk hj hj5 hlt h5 hwf b7 f1
        subst e1
        go_wp2_with fail
        generalize wr.alloc (.cells #[.string ⟨#[115, 101, 101]⟩, .string ⟨#[99, 104, 97, 110, 103, 101]⟩, .string ⟨#[107, 101, 101, 112]⟩, .string ⟨#[103, 105, 118, 101]⟩, .string ⟨#[115, 101, 101]⟩, .string ⟨#[107, 101, 101, 112]⟩, .string ⟨#[115, 101, 97]⟩] 9) = W7 at *
        refine (har W7).mono ?_
        rintro e w7 ⟨rfl, rfl⟩
        clear har f1a
        have ho7 := ho.grow ((Grow.refl W7).alloc (.cells #[Value.string y] 9))
        go_wp2_with (at_builtin; refine wpList_appV (f := Value.string) (d := ⟨#[]⟩) rfl (.tmp 57) (.tmp 66) 38 38 rfl i0 (Value.string ⟨#[]⟩) 16 Tryd.underlying38 hi hz0 hz1 hz2 rfl rfl rfl ho7 (Src.oneV (w := W7) Tryd.underlying38 Value.string y rfl 9) (by have := HLB.out; simp only [maxLen, List.length_singleton]; omega) (by have := HLB.out; simp only [List.length_singleton]; omega) ?_)
        intro v' w' ho' hu'
        have hgs := g7.size
        have hsz : (W7.alloc (.cells #[Value.string y] 9)).heap.size = W7.heap.size + 1 := World.size_alloc _ _
        have HF2 : Hid (OwnV Value.string ⟨#[]⟩ (fun i => w.heap.size ≤ i) w' v' ((ks.map kn).take (j + 1)) ∧ Grow w w') :=
          ⟨by rw [HS.out]; exact ho'.mono (fun i _ hi => hi.elim (fun h => h) (fun h => by omega)), UpdS.new (g7.alloc _) hu' (fun i hi => hi)⟩
        clear ho' hu' hgs hsz ho ho7 f7 g7
        go_wp2
        go_roundg (ks.length - (j + 1))
        case measure => have := HJ.out; omega
        case rel => exact ⟨j + 1, rfl, by have := HJ.out; omega, by have := HJ.out; omega, by go_num, HF2.out⟩
      · have h5' : ¬ (j : Int) < 5 := by omega
        have hj5b : j ≤ 5 := hj5
        clear hk hj hlt h5
        have g5 : Grow w (wr.alloc (.cells #[.slice a1 5 c1, u12] 38)) := HT.out.2.trans ((Grow.refl wr).alloc _)
        have hKl : ((ks.map kn).take j).length ≤ 1000 := by rw [List.length_take]; omega
        have hK := HT.out.1.rd
        obtain ⟨a2, c2, e2⟩ := hK.shape
        generalize (ks.map kn).take j = LK at hK e2 hKl
        have rF := HF.out.1.grow HT.out.2
        have cA : (wr.alloc (.cells #[.slice a1 5 c1, u12] 38)).cell? ⟨wr.heap.size, 0, none⟩ = some (.slice a1 5 c1) := World.cell?_alloc_new wr _ _ 0
        have cB : (wr.alloc (.cells #[.slice a1 5 c1, u12] 38)).cell? ⟨wr.heap.size, 1, none⟩ = some u12 := World.cell?_alloc_new wr _ _ 1
        have rF5 := rF.grow ((Grow.refl wr).alloc (.cells #[.slice a1 5 c1, u12] 38))
        have rK5 := hK.grow ((Grow.refl wr).alloc (.cells #[.slice a1 5 c1, u12] 38))
        generalize LK.length = NK at e2 hKl
        clear HT rF hK
        subst e2
        go_wp2
        generalize wr.alloc (.cells #[.slice a1 5 c1, .slice a2 NK c2] 38) = W5 at *
        have HC : Hid (W5.cell? ⟨wr.heap.size, 0, none⟩ = some (.slice a1 5 c1) ∧ W5.cell? ⟨wr.heap.size, 1, none⟩ = some (.slice a2 NK c2) ∧ RdV Value.string ⟨#[]⟩ p1 W5 (.slice a1 5 c1) LF ∧ RdV Value.string ⟨#[]⟩ (fun i => w.heap.size ≤ i) W5 (.slice a2 NK c2) LK ∧ NK ≤ 1000 ∧ Grow w W5) := ⟨cA, cB, rF5, rK5, hKl, g5⟩
        clear cA cB rF5 rK5 hKl g5
        obtain ⟨W4, rfl⟩ : ∃ W4, W4 = wr := ⟨_, rfl⟩
        go_loopg [15] 2 (fun k i wr => ∃ m : Nat, k = 2 - m ∧ m ≤ 2 ∧ i = .int .i64 m ∧ Hid (Grow W5 wr))
        case atStart => exact ⟨0, rfl, Nat.zero_le _, rfl, Grow.refl _⟩
        case round =>
          obtain ⟨m, hk, hm, rfl, HGr⟩ := hrel
          have HG5 : Hid (Grow w wr ∧ Grow W5 wr) := ⟨HC.out.2.2.2.2.2.trans HGr.out, HGr.out⟩
          rcases (show m = 0 ∨ m = 1 ∨ m = 2 by omega) with rfl | rfl | rfl
          · have f0 := grow_cell HGr.out HC.out.1
            have q0 := HC.out.2.2.1.grow HGr.out
            have p0 := parse_any wr _ _ _ (HW.out.grow HG5.out.1) q0
            have r0 := fun u (g : Grow wr u) => rparse_any u _ _ _ (q0.grow g) HF.out.2
            clear q0 HGr
            by_cases hA : allN LF = true
            · have hv : parV LF = parS LF := parV_yes hA
              have he : parE LF = 0 := parE_yes hA
              have hr : rparV LF = (parS LF : Int) := rparV_yes hA
              rw [hv, he] at p0
              rw [hr] at r0
              generalize parS LF = z at p0 r0
              have hz0 : 0 ≤ (z : Int) := by omega
              clear hA hv he hr
              go_wp2_with fail
              refine p0.mono ?_
              rintro e w6 ⟨rfl, g6⟩
              have r6 := r0 w6 g6
              have f6 := grow_cell g6 f0
              have HG6 : Hid (Grow w w6 ∧ Grow W5 w6) := ⟨HG5.out.1.trans g6, HG5.out.2.trans g6⟩
              clear p0 r0 g6
              go_wp2_with fail
              refine r6.mono ?_
              rintro e w7 ⟨rfl, g7⟩
              have HG7 : Hid (Grow w w7 ∧ Grow W5 w7) := ⟨HG6.out.1.trans g7, HG6.out.2.trans g7⟩
              clear r6 g7 f6 f0
              go_wp2
              go_roundg (2 - (0 + 1))
              case measure => omega
              case rel => exact ⟨0 + 1, rfl, by omega, by go_num, HG7.out.2⟩
            · have hA' : allN LF = false := by cases h : allN LF with
                | true => exact absurd h hA
                | false => rfl
              have hv : parV LF = 0 := parV_no hA'
              have he : parE LF = 2 := parE_no hA'
              have hr : rparV LF = -1 := rparV_no hA'
              rw [hv, he] at p0
              rw [hr] at r0
              clear hA hA' hv he hr
              go_wp2_with fail
              refine p0.mono ?_
              rintro e w6 ⟨rfl, g6⟩
              have r6 := r0 w6 g6
              have f6 := grow_cell g6 f0
              have HG6 : Hid (Grow w w6 ∧ Grow W5 w6) := ⟨HG5.out.1.trans g6, HG5.out.2.trans g6⟩
              clear p0 r0 g6
              go_wp2_with fail
              refine r6.mono ?_
              rintro e w7 ⟨rfl, g7⟩
              have HG7 : Hid (Grow w w7 ∧ Grow W5 w7) := ⟨HG6.out.1.trans g7, HG6.out.2.trans g7⟩
              clear r6 g7 f6 f0
              go_wp2
              go_roundg (2 - (0 + 1))
              case measure => omega
              case rel => exact ⟨0 + 1, rfl, by omega, by go_num, HG7.out.2⟩
          · have f1 := grow_cell HGr.out HC.out.2.1
            have q1 := HC.out.2.2.2.1.grow HGr.out
            have hNK : LK.length ≤ 1000 := by have := q1.caps; have := HC.out; omega
            have p1 := parse_any wr _ _ _ (HW.out.grow HG5.out.1) q1
            have r1 := fun u (g : Grow wr u) => rparse_any u _ _ _ (q1.grow g) hNK
            clear q1 HGr hNK
            by_cases hA : allN LK = true
            · have hv : parV LK = parS LK := parV_yes hA
              have he : parE LK = 0 := parE_yes hA
              have hr : rparV LK = (parS LK : Int) := rparV_yes hA
              rw [hv, he] at p1
              rw [hr] at r1
              generalize parS LK = z at p1 r1
              have hz0 : 0 ≤ (z : Int) := by omega
              clear hA hv he hr
              go_wp2_with fail
              refine p1.mono ?_
              rintro e w6 ⟨rfl, g6⟩
              have r6 := r1 w6 g6
              have f6 := grow_cell g6 f1
              have HG6 : Hid (Grow w w6 ∧ Grow W5 w6) := ⟨HG5.out.1.trans g6, HG5.out.2.trans g6⟩
              clear p1 r1 g6
              go_wp2_with fail
              refine r6.mono ?_
              rintro e w7 ⟨rfl, g7⟩
              have HG7 : Hid (Grow w w7 ∧ Grow W5 w7) := ⟨HG6.out.1.trans g7, HG6.out.2.trans g7⟩
              clear r6 g7 f6 f1
              go_wp2
              go_roundg (2 - (1 + 1))
              case measure => omega
              case rel => exact ⟨1 + 1, rfl, by omega, by go_num, HG7.out.2⟩
            · have hA' : allN LK = false := by cases h : allN LK with
                | true => exact absurd h hA
                | false => rfl
              have hv : parV LK = 0 := parV_no hA'
              have he : parE LK = 2 := parE_no hA'
              have hr : rparV LK = -1 := rparV_no hA'
              rw [hv, he] at p1
              rw [hr] at r1
              clear hA hA' hv he hr
              go_wp2_with fail
              refine p1.mono ?_
              rintro e w6 ⟨rfl, g6⟩
              have r6 := r1 w6 g6
              have f6 := grow_cell g6 f1
              have HG6 : Hid (Grow w w6 ∧ Grow W5 w6) := ⟨HG5.out.1.trans g6, HG5.out.2.trans g6⟩
              clear p1 r1 g6
              go_wp2_with fail
              refine r6.mono ?_
              rintro e w7 ⟨rfl, g7⟩
              have HG7 : Hid (Grow w w7 ∧ Grow W5 w7) := ⟨HG6.out.1.trans g7, HG6.out.2.trans g7⟩
              clear r6 g7 f6 f1
              go_wp2
              go_roundg (2 - (1 + 1))
              case measure => omega
              case rel => exact ⟨1 + 1, rfl, by omega, by go_num, HG7.out.2⟩
          · have hlv := lives_any wr (HW.out.grow HG5.out.1)
            clear HGr
            go_wp2_with fail
            refine hlv.mono ?_
            rintro e w6 ⟨rfl, g6⟩
            go_wp2
            go_ret
            exact ⟨rfl, HG5.out.1.trans g6⟩
    · have hlt' : ¬ (j : Int) < (ks.length : Int) := by omega
      have hj5b : j ≤ 5 := hj5
      clear hk hj hlt
      have g5 : Grow w (wr.alloc (.cells #[.slice a1 5 c1, u12] 38)) := HT.out.2.trans ((Grow.refl wr).alloc _)
      have hKl : ((ks.map kn).take j).length ≤ 1000 := by rw [List.length_take]; omega
      have hK := HT.out.1.rd
      obtain ⟨a2, c2, e2⟩ := hK.shape
      generalize (ks.map kn).take j = LK at hK e2 hKl
      have rF := HF.out.1.grow HT.out.2
      have cA : (wr.alloc (.cells #[.slice a1 5 c1, u12] 38)).cell? ⟨wr.heap.size, 0, none⟩ = some (.slice a1 5 c1) := World.cell?_alloc_new wr _ _ 0
      have cB : (wr.alloc (.cells #[.slice a1 5 c1, u12] 38)).cell? ⟨wr.heap.size, 1, none⟩ = some u12 := World.cell?_alloc_new wr _ _ 1
      have rF5 := rF.grow ((Grow.refl wr).alloc (.cells #[.slice a1 5 c1, u12] 38))
      have rK5 := hK.grow ((Grow.refl wr).alloc (.cells #[.slice a1 5 c1, u12] 38))
      generalize LK.length = NK at e2 hKl
      clear HT rF hK
      subst e2
      go_wp2
      generalize wr.alloc (.cells #[.slice a1 5 c1, .slice a2 NK c2] 38) = W5 at *
      have HC : Hid (W5.cell? ⟨wr.heap.size, 0, none⟩ = some (.slice a1 5 c1) ∧ W5.cell? ⟨wr.heap.size, 1, none⟩ = some (.slice a2 NK c2) ∧ RdV Value.string ⟨#[]⟩ p1 W5 (.slice a1 5 c1) LF ∧ RdV Value.string ⟨#[]⟩ (fun i => w.heap.size ≤ i) W5 (.slice a2 NK c2) LK ∧ NK ≤ 1000 ∧ Grow w W5) := ⟨cA, cB, rF5, rK5, hKl, g5⟩
      clear cA cB rF5 rK5 hKl g5
      obtain ⟨W4, rfl⟩ : ∃ W4, W4 = wr := ⟨_, rfl⟩
      go_loopg [15] 2 (fun k i wr => ∃ m : Nat, k = 2 - m ∧ m ≤ 2 ∧ i = .int .i64 m ∧ Hid (Grow W5 wr))
      case atStart => exact ⟨0, rfl, Nat.zero_le _, rfl, Grow.refl _⟩
      case round =>
        obtain ⟨m, hk, hm, rfl, HGr⟩ := hrel
        have HG5 : Hid (Grow w wr ∧ Grow W5 wr) := ⟨HC.out.2.2.2.2.2.trans HGr.out, HGr.out⟩
        rcases (show m = 0 ∨ m = 1 ∨ m = 2 by omega) with rfl | rfl | rfl
        · have f0 := grow_cell HGr.out HC.out.1
          have q0 := HC.out.2.2.1.grow HGr.out
          have p0 := parse_any wr _ _ _ (HW.out.grow HG5.out.1) q0
          have r0 := fun u (g : Grow wr u) => rparse_any u _ _ _ (q0.grow g) HF.out.2
          clear q0 HGr
          by_cases hA : allN LF = true
          · have hv : parV LF = parS LF := parV_yes hA
            have he : parE LF = 0 := parE_yes hA
            have hr : rparV LF = (parS LF : Int) := rparV_yes hA
            rw [hv, he] at p0
            rw [hr] at r0
            generalize parS LF = z at p0 r0
            have hz0 : 0 ≤ (z : Int) := by omega
            clear hA hv he hr
            go_wp2_with fail
            refine p0.mono ?_
            rintro e w6 ⟨rfl, g6⟩
            have r6 := r0 w6 g6
            have f6 := grow_cell g6 f0
            have HG6 : Hid (Grow w w6 ∧ Grow W5 w6) := ⟨HG5.out.1.trans g6, HG5.out.2.trans g6⟩
            clear p0 r0 g6
            go_wp2_with fail
            refine r6.mono ?_
            rintro e w7 ⟨rfl, g7⟩
            have HG7 : Hid (Grow w w7 ∧ Grow W5 w7) := ⟨HG6.out.1.trans g7, HG6.out.2.trans g7⟩
            clear r6 g7 f6 f0
            go_wp2
            go_roundg (2 - (0 + 1))
            case measure => omega
            case rel => exact ⟨0 + 1, rfl, by omega, by go_num, HG7.out.2⟩
          · have hA' : allN LF = false := by cases h : allN LF with
              | true => exact absurd h hA
              | false => rfl
            have hv : parV LF = 0 := parV_no hA'
            have he : parE LF = 2 := parE_no hA'
            have hr : rparV LF = -1 := rparV_no hA'
            rw [hv, he] at p0
            rw [hr] at r0
            clear hA hA' hv he hr
            go_wp2_with fail
            refine p0.mono ?_
            rintro e w6 ⟨rfl, g6⟩
            have r6 := r0 w6 g6
            have f6 := grow_cell g6 f0
            have HG6 : Hid (Grow w w6 ∧ Grow W5 w6) := ⟨HG5.out.1.trans g6, HG5.out.2.trans g6⟩
            clear p0 r0 g6
            go_wp2_with fail
            refine r6.mono ?_
            rintro e w7 ⟨rfl, g7⟩
            have HG7 : Hid (Grow w w7 ∧ Grow W5 w7) := ⟨HG6.out.1.trans g7, HG6.out.2.trans g7⟩
            clear r6 g7 f6 f0
            go_wp2
            go_roundg (2 - (0 + 1))
            case measure => omega
            case rel => exact ⟨0 + 1, rfl, by omega, by go_num, HG7.out.2⟩
        · have f1 := grow_cell HGr.out HC.out.2.1
          have q1 := HC.out.2.2.2.1.grow HGr.out
          have hNK : LK.length ≤ 1000 := by have := q1.caps; have := HC.out; omega
          have p1 := parse_any wr _ _ _ (HW.out.grow HG5.out.1) q1
          have r1 := fun u (g : Grow wr u) => rparse_any u _ _ _ (q1.grow g) hNK
          clear q1 HGr hNK
          by_cases hA : allN LK = true
          · have hv : parV LK = parS LK := parV_yes hA
            have he : parE LK = 0 := parE_yes hA
            have hr : rparV LK = (parS LK : Int) := rparV_yes hA
            rw [hv, he] at p1
            rw [hr] at r1
            generalize parS LK = z at p1 r1
            have hz0 : 0 ≤ (z : Int) := by omega
            clear hA hv he hr
            go_wp2_with fail
            refine p1.mono ?_
            rintro e w6 ⟨rfl, g6⟩
            have r6 := r1 w6 g6
            have f6 := grow_cell g6 f1
            have HG6 : Hid (Grow w w6 ∧ Grow W5 w6) := ⟨HG5.out.1.trans g6, HG5.out.2.trans g6⟩
            clear p1 r1 g6
            go_wp2_with fail
            refine r6.mono ?_
            rintro e w7 ⟨rfl, g7⟩
            have HG7 : Hid (Grow w w7 ∧ Grow W5 w7) := ⟨HG6.out.1.trans g7, HG6.out.2.trans g7⟩
            clear r6 g7 f6 f1
            go_wp2
            go_roundg (2 - (1 + 1))
            case measure => omega
            case rel => exact ⟨1 + 1, rfl, by omega, by go_num, HG7.out.2⟩
          · have hA' : allN LK = false := by cases h : allN LK with
              | true => exact absurd h hA
              | false => rfl
            have hv : parV LK = 0 := parV_no hA'
            have he : parE LK = 2 := parE_no hA'
            have hr : rparV LK = -1 := rparV_no hA'
            rw [hv, he] at p1
            rw [hr] at r1
            clear hA hA' hv he hr
            go_wp2_with fail
            refine p1.mono ?_
            rintro e w6 ⟨rfl, g6⟩
            have r6 := r1 w6 g6
            have f6 := grow_cell g6 f1
            have HG6 : Hid (Grow w w6 ∧ Grow W5 w6) := ⟨HG5.out.1.trans g6, HG5.out.2.trans g6⟩
            clear p1 r1 g6
            go_wp2_with fail
            refine r6.mono ?_
            rintro e w7 ⟨rfl, g7⟩
            have HG7 : Hid (Grow w w7 ∧ Grow W5 w7) := ⟨HG6.out.1.trans g7, HG6.out.2.trans g7⟩
            clear r6 g7 f6 f1
            go_wp2
            go_roundg (2 - (1 + 1))
            case measure => omega
            case rel => exact ⟨1 + 1, rfl, by omega, by go_num, HG7.out.2⟩
        · have hlv := lives_any wr (HW.out.grow HG5.out.1)
          clear HGr
          go_wp2_with fail
          refine hlv.mono ?_
          rintro e w6 ⟨rfl, g6⟩
          go_wp2
          go_ret
          exact ⟨rfl, HG5.out.1.trans g6⟩

theorem rightsNames_walk (n : Int) (v1 v2 : Value) (ls : List ByteArray) (ks : List Int) (w : World) (p1 p2 : Nat → Prop) (hw : WT w) (hn : (Lit.int .i64 n).wf = true) (hl : RdV Value.string ⟨#[]⟩ p1 w v1 ls) (hks : RdV (Value.int .i64) 0 p2 w v2 ks) (hkw : ∀ z ∈ ks, (Lit.int .i64 z).wf = true) :
    Calls Tryd.prog 6 #[.int .i64 n, v1, v2] w fun e w' => e = .returned (.bool true) ∧ Grow w w' := by
  by_cases h : ls.length ≤ 5
  · exact rightsNames_few n v1 v2 ls ks w p1 p2 hw hn hl hks hkw h
  · exact rightsNames_more n v1 v2 ls ks w p1 p2 hw hn hl hks hkw h
end Go.Proofs.YtfpgbicikpkkiaaDoor
