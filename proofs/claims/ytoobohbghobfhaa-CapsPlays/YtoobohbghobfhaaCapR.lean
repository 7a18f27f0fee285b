/-
  The walks of Revoke, All, Live, New. Conditions: each theorem's own.
-/
import Derived.Test.YtoobohbghobfhaaCapN
namespace Go.Proofs.Ytoobohbghobfhaa
open Go.RowKit
set_option linter.unusedVariables false
set_option linter.unusedSimpArgs false

/-- behind Revoke's beginning -/
def ReAt (w wr : World) (b b1 b2 : Nat) (S : List Sl) (k n : Int) (c d : Cp) : Prop :=
  TbAt wr b S k n ∧ VarAt wr b1 [.int .i64 c.s, .int .i64 c.g] ∧ VarAt wr b2 [.int .i64 d.s, .int .i64 d.g] ∧ Grow w wr ∧ b1 = w.heap.size ∧ b2 = w.heap.size + 1
theorem ReAt.grow {w wr w2 : World} {b b1 b2 : Nat} {S : List Sl} {k n : Int} {c d : Cp} (h : ReAt w wr b b1 b2 S k n c d) (g : Grow wr w2) : ReAt w w2 b b1 b2 S k n c d :=
  ⟨h.1.grow g, h.2.1.grow g, h.2.2.1.grow g, h.2.2.2.1.trans g, h.2.2.2.2.1, h.2.2.2.2.2⟩
theorem ReAt.start {w : World} {b : Nat} {S : List Sl} {k n : Int} (c d : Cp) (h : TbAt w b S k n) : ReAt w ((w.alloc (.cells #[.int .i64 c.s, .int .i64 c.g] 33)).alloc (.cells #[.int .i64 d.s, .int .i64 d.g] 33)) b w.heap.size (w.heap.size + 1) S k n c d :=
  ⟨h.grow (((Grow.refl w).alloc _).alloc _), (VarAt.new w [.int .i64 c.s, .int .i64 c.g] 33).old _, VarAt.new2 w _ [.int .i64 d.s, .int .i64 d.g] 33, ((Grow.refl w).alloc _).alloc _, rfl, rfl⟩

set_option maxHeartbeats 4000000 in
theorem revoke_1 (b : Nat) (S : List Sl) (k n : Int) (c d : Cp) (w : World) (h : TbAt w b S k n) (hO : TbOk S k n) (E : Int) (hE : chkS S c 8 = E) (h1 : E ≠ 0) :
    Calls Try.prog 15 #[.pointer (some ⟨b, 0, none⟩), .agg #[.int .i64 c.s, .int .i64 c.g], .agg #[.int .i64 d.s, .int .i64 d.g]] w fun e w' => e = .returned (.int .i64 E) ∧ Grow w w' := by
  obtain ⟨W0, hW0⟩ : ∃ W0, W0 = (w.alloc (.cells #[.int .i64 c.s, .int .i64 c.g] 33)).alloc (.cells #[.int .i64 d.s, .int .i64 d.g] 33) := ⟨_, rfl⟩
  have HX := hid (ReAt.start c d h)
  rw [← hW0] at HX
  have HG := hid (fun u (hu : TbAt u b S k n) => good_any b S k n d u hu hO.len)
  obtain ⟨b2, hb2⟩ : ∃ b2, b2 = w.heap.size + 1 := ⟨_, rfl⟩
  obtain ⟨b1, hb1⟩ : ∃ b1, b1 = w.heap.size := ⟨_, rfl⟩
  rw [← hb2, ← hb1] at HX
  have k1 := check_any b S k n c 8 W0 HX.out.1 hO (by omega)
  rw [hE] at k1
  have q1 := bneT h1
  clear HG hE h1 h hO
  go_enter Try.func15, Try.ntmps15
  go_upto_region 1 with fail
  rw [← hW0, ← hb2, ← hb1]
  clear hW0 hb2 hb1
  obtain ⟨⟨m0, m1⟩, -⟩ := HX.out.2.1.two
  obtain ⟨⟨n0, n1⟩, -⟩ := HX.out.2.2.1.two
  go_wp2_with fail
  refine k1.mono ?_
  rintro e w2 ⟨rfl, gw2⟩
  clear m0 m1 n0 n1
  replace HX := hid (HX.out.grow gw2)
  clear gw2
  obtain ⟨⟨m0, m1⟩, -⟩ := HX.out.2.1.two
  obtain ⟨⟨n0, n1⟩, -⟩ := HX.out.2.2.1.two
  clear k1
  go_wp2
  go_ret
  exact ⟨rfl, HX.out.2.2.2.1⟩

set_option maxHeartbeats 4000000 in
theorem revoke_2 (b : Nat) (S : List Sl) (k n : Int) (c d : Cp) (w : World) (h : TbAt w b S k n) (hO : TbOk S k n) (hE : chkS S c 8 = 0) (hg : goodB S d = false) :
    Calls Try.prog 15 #[.pointer (some ⟨b, 0, none⟩), .agg #[.int .i64 c.s, .int .i64 c.g], .agg #[.int .i64 d.s, .int .i64 d.g]] w fun e w' => e = .returned (.int .i64 10) ∧ Grow w w' := by
  obtain ⟨W0, hW0⟩ : ∃ W0, W0 = (w.alloc (.cells #[.int .i64 c.s, .int .i64 c.g] 33)).alloc (.cells #[.int .i64 d.s, .int .i64 d.g] 33) := ⟨_, rfl⟩
  have HX := hid (ReAt.start c d h)
  rw [← hW0] at HX
  have HG := hid (fun u (hu : TbAt u b S k n) => good_any b S k n d u hu hO.len)
  obtain ⟨b2, hb2⟩ : ∃ b2, b2 = w.heap.size + 1 := ⟨_, rfl⟩
  obtain ⟨b1, hb1⟩ : ∃ b1, b1 = w.heap.size := ⟨_, rfl⟩
  rw [← hb2, ← hb1] at HX
  have k1 := check_any b S k n c 8 W0 HX.out.1 hO (by omega)
  rw [hE] at k1
  rw [hg] at HG
  clear hE hg h hO
  go_enter Try.func15, Try.ntmps15
  go_upto_region 1 with fail
  rw [← hW0, ← hb2, ← hb1]
  clear hW0 hb2 hb1
  obtain ⟨⟨m0, m1⟩, -⟩ := HX.out.2.1.two
  obtain ⟨⟨n0, n1⟩, -⟩ := HX.out.2.2.1.two
  go_wp2_with fail
  refine k1.mono ?_
  rintro e w2 ⟨rfl, gw2⟩
  clear m0 m1 n0 n1
  replace HX := hid (HX.out.grow gw2)
  clear gw2
  clear k1
  have k2 := HG.out w2 HX.out.1
  obtain ⟨⟨m0, m1⟩, -⟩ := HX.out.2.1.two
  obtain ⟨⟨n0, n1⟩, -⟩ := HX.out.2.2.1.two
  go_wp2_with fail
  refine k2.mono ?_
  rintro e w3 ⟨rfl, gw3⟩
  clear m0 m1 n0 n1
  replace HX := hid (HX.out.grow gw3)
  clear gw3
  obtain ⟨⟨m0, m1⟩, -⟩ := HX.out.2.1.two
  obtain ⟨⟨n0, n1⟩, -⟩ := HX.out.2.2.1.two
  clear k2 HG
  go_wp2
  go_ret
  exact ⟨rfl, HX.out.2.2.2.1⟩

set_option maxHeartbeats 4000000 in
theorem revoke_3 (b : Nat) (S : List Sl) (k n : Int) (c : Cp) (i : Nat) (g : Int) (w : World) (h : TbAt w b S k n) (hO : TbOk S k n) (hi : i < 8) (hE : chkS S c 8 = 0) (hg : goodB S ⟨i, g⟩ = true) :
    Calls Try.prog 15 #[.pointer (some ⟨b, 0, none⟩), .agg #[.int .i64 c.s, .int .i64 c.g], .agg #[.int .i64 i, .int .i64 g]] w fun e w' => e = .returned (.int .i64 0) ∧ TbAt w' b (S.set i Sl.zero) k n ∧ UpdS (fun x => x = b) w w' := by
  have h0 : 0 ≤ (i : Int) := by omega
  have h8 : (i : Int) < 8 := by omega
  have HI : Hid (i < 8 ∧ S.length = 8) := ⟨hi, hO.len⟩
  obtain ⟨W0, hW0⟩ : ∃ W0, W0 = (w.alloc (.cells #[.int .i64 c.s, .int .i64 c.g] 33)).alloc (.cells #[.int .i64 (i : Int), .int .i64 g] 33) := ⟨_, rfl⟩
  have HX : Hid (ReAt w ((w.alloc (.cells #[.int .i64 c.s, .int .i64 c.g] 33)).alloc (.cells #[.int .i64 (i : Int), .int .i64 g] 33)) b w.heap.size (w.heap.size + 1) S k n c ⟨i, g⟩) := ReAt.start c ⟨i, g⟩ h
  rw [← hW0] at HX
  have HG : Hid (∀ u, TbAt u b S k n → Calls Try.prog 31 #[.pointer (some ⟨b, 0, none⟩), .agg #[.int .i64 (i : Int), .int .i64 g]] u fun e w' => e = .returned (.bool (goodB S ⟨i, g⟩)) ∧ Grow u w') := fun u hu => good_any b S k n ⟨i, g⟩ u hu hO.len
  obtain ⟨b2, hb2⟩ : ∃ b2, b2 = w.heap.size + 1 := ⟨_, rfl⟩
  obtain ⟨b1, hb1⟩ : ∃ b1, b1 = w.heap.size := ⟨_, rfl⟩
  rw [← hb2, ← hb1] at HX
  have k1 := check_any b S k n c 8 W0 HX.out.1 hO (by omega)
  rw [hE] at k1
  rw [hg] at HG
  clear hE hg h hO hi
  go_enter Try.func15, Try.ntmps15
  go_upto_region 1 with fail
  rw [← hW0, ← hb2, ← hb1]
  clear hW0 hb2 hb1
  obtain ⟨⟨m0, m1⟩, -⟩ := HX.out.2.1.two
  obtain ⟨⟨n0, n1⟩, -⟩ := HX.out.2.2.1.two
  go_wp2_with fail
  refine k1.mono ?_
  rintro e w2 ⟨rfl, gw2⟩
  clear m0 m1 n0 n1
  replace HX := hid (HX.out.grow gw2)
  clear gw2
  clear k1
  have k2 := HG.out w2 HX.out.1
  obtain ⟨⟨m0, m1⟩, -⟩ := HX.out.2.1.two
  obtain ⟨⟨n0, n1⟩, -⟩ := HX.out.2.2.1.two
  go_wp2_with fail
  refine k2.mono ?_
  rintro e w3 ⟨rfl, gw3⟩
  clear m0 m1 n0 n1
  replace HX := hid (HX.out.grow gw3)
  clear gw3
  obtain ⟨⟨m0, m1⟩, -⟩ := HX.out.2.1.two
  obtain ⟨⟨n0, n1⟩, -⟩ := HX.out.2.2.1.two
  clear k2 HG
  obtain ⟨⟨c0, c1, c2⟩, z0, z1, z2⟩ := HX.out.1.sl HI.out.2 HI.out.1
  have hb := HX.out.1.lt
  obtain ⟨W4, hW4⟩ : ∃ W4, W4 = ((w3.setCell ⟨b, i * 3, none⟩ (.int .i64 0)).setCell ⟨b, i * 3 + 1, none⟩ (.int .i64 0)).setCell ⟨b, i * 3 + 2, none⟩ (.int .i64 0) := ⟨_, rfl⟩
  have HF : Hid (TbAt W4.drew b (S.set i Sl.zero) k n ∧ UpdS (fun x => x = b) w W4.drew) := by
    rw [hW4]
    exact ⟨(HX.out.1.put HI.out.2 HI.out.1 Sl.zero).grow (Grow.refl _).drew, (HX.out.2.2.2.1.s.trans (upd_slot w3 b i _ _ _)).drew⟩
  go_wp2
  go_region
  all_goals
    go_wp2
    go_ret
    rw [hW4] at HF
    exact ⟨rfl, HF.out.1, HF.out.2⟩

theorem revoke_any (b : Nat) (S : List Sl) (k n : Int) (c d : Cp) (w : World) (h : TbAt w b S k n) (hO : TbOk S k n) :
    Calls Try.prog 15 #[.pointer (some ⟨b, 0, none⟩), .agg #[.int .i64 c.s, .int .i64 c.g], .agg #[.int .i64 d.s, .int .i64 d.g]] w fun e w' => e = .returned (.int .i64 (errR S c d)) ∧ TbAt w' b (setR S c d) k n ∧ UpdS (fun x => x = b) w w' := by
  by_cases h1 : chkS S c 8 = 0
  · cases hg : goodB S d
    · have e : errR S c d = 10 := by unfold errR; rw [if_neg (fun x => x h1), hg]; rfl
      unfold setR
      rw [e, if_neg (by omega)]
      exact (revoke_2 b S k n c d w h hO h1 hg).mono fun e w' ⟨h1, h2⟩ => ⟨h1, h.grow h2, h2.s⟩
    · have e : errR S c d = 0 := by unfold errR; rw [if_neg (fun x => x h1), hg]; rfl
      unfold setR
      rw [e, if_pos rfl]
      obtain ⟨i0, i8, -, -⟩ := goodB_yes hg
      obtain ⟨s, g⟩ := d
      obtain ⟨i, rfl⟩ := Int.eq_ofNat_of_zero_le i0
      exact revoke_3 b S k n c i g w h hO (by simp only at i8; omega) h1 hg
  · have e : errR S c d = chkS S c 8 := by unfold errR; rw [if_pos h1]
    unfold setR
    rw [e, if_neg h1]
    exact (revoke_1 b S k n c d w h hO _ rfl h1).mono fun e w' ⟨h1, h2⟩ => ⟨h1, h.grow h2, h2.s⟩

theorem infoC : (Try.prog.info? 33).map (fun i => (i.zero, i.size, i.bytes)) = some (some (.agg #[.int .i64 0, .int .i64 0]), 2, 16) := by kernel_rfl
theorem cp_one : ∀ c : Cp, ∀ u ∈ c.cs, u.oneCell' = true := fun c u hu => by
  simp only [Cp.cs, List.mem_cons, List.not_mem_nil, or_false] at hu
  rcases hu with rfl | rfl <;> rfl
theorem sl_one : ∀ x : Sl, ∀ u ∈ x.cs, u.oneCell' = true := fun c u hu => by
  simp only [Sl.cs, List.mem_cons, List.not_mem_nil, or_false] at hu
  rcases hu with rfl | rfl | rfl <;> rfl
theorem src_oneC (w : World) (s g : Int) : Src Try.prog 2 35 (.slice (some ⟨w.heap.size, 0, none⟩) 1 1) [(⟨s, g⟩ : Cp)].length ([(⟨s, g⟩ : Cp)].flatMap Cp.cs) (w.alloc (.cells #[.int .i64 s, .int .i64 g] 33)) :=
  (rdS_new (f := Cp.cs) (k := 2) w 33 [⟨s, g⟩] cpk (by simp [maxLen])).src cpk cp_one Try.underlying35
theorem allS_take {S : List Sl} {j : Nat} (h : j < S.length) : allS (S.take (j + 1)) = allS (S.take j) ++ (if (S.getD j Sl.zero).emp then [] else [S.getD j Sl.zero]) := by
  have e : S.getD j Sl.zero = S[j] := by simp [List.getD, List.getElem?_eq_getElem h]
  rw [List.take_succ_eq_append_getElem h, e, allS, List.filter_append, ← allS]
  cases he : S[j].emp <;> simp [he]
/-- the capabilities of the first j slots -/
def capL (S : List Sl) (j : Nat) : List Cp := (allS (S.take j)).map Sl.cp
theorem capL_no {S : List Sl} {j : Nat} (h : j < S.length) {x : Sl} (hx : S.getD j Sl.zero = x) (he : x.emp = true) : capL S (j + 1) = capL S j := by
  unfold capL
  rw [allS_take h, hx, he]; simp
theorem capL_yes {S : List Sl} {j : Nat} (h : j < S.length) {x : Sl} (hx : S.getD j Sl.zero = x) (he : x.emp = false) : capL S (j + 1) = capL S j ++ [x.cp] := by
  unfold capL
  rw [allS_take h, hx, he]; simp
theorem capL_len (S : List Sl) (j : Nat) : (capL S j).length ≤ j := by
  unfold capL
  rw [List.length_map]
  exact Nat.le_trans (allS_len _) (List.length_take_le _ _)
theorem capL_all {S : List Sl} (h : S.length = 8) : capL S 8 = (allS S).map Sl.cp := by unfold capL; rw [List.take_of_length_le (by omega)]

set_option maxHeartbeats 4000000 in
theorem all_caps (b : Nat) (S : List Sl) (k n : Int) (w : World) (h : TbAt w b S k n) (hS : S.length = 8) : Calls Try.prog 23 #[.pointer (some ⟨b, 0, none⟩)] w fun e w' => ∃ v, e = .returned v ∧ OwnS Cp.cs 2 (fun i => w.heap.size ≤ i) w' v ((allS S).map Sl.cp) ∧ Grow w w' := by
  obtain ⟨i0, hi, hz0, hz1, hz2⟩ := info_parts infoC
  have HRg : Hid (w.rangeAt b 0 (S.flatMap Sl.cs)) := h.range hS
  have hl := flat24 hS
  have HI : Hid ((Try.prog.info? 69).map (·.size) = some (S.flatMap Sl.cs).length) := by show _ = _; rw [hl]; exact infoA8
  have HX := hid (index_sl S hS)
  have HS : Hid (S.length = 8) := hS
  clear h hl hS
  go_enter Try.func23, Try.ntmps23
  go_wp2_with (refine wpList_load_mid rfl 69 (.tmp 8) rfl b 0 rfl (S.flatMap Sl.cs) _ HRg.out Try.underlying69 rfl HI.out ?_)
  generalize (S.flatMap Sl.cs).toArray = A at HX
  clear HRg HI
  go_wp2
  go_loopg [3, 10] 8 (fun m lv iv wr => ∃ j : Nat, m = 8 - j ∧ j ≤ 8 ∧ iv = .int .i64 j ∧ Hid (OwnS Cp.cs 2 (fun i => w.heap.size ≤ i) wr lv (capL S j) ∧ Grow w wr))
  case atStart => exact ⟨0, rfl, Nat.zero_le _, rfl, OwnS.nil _ _ _ _ _, Grow.refl _⟩
  case round =>
    obtain ⟨j, hk, hj, rfl, HO⟩ := hrel
    by_cases hlt : j < 8
    · have hlt' : (j : Int) < 8 := by omega
      have hx := HX.out j hlt
      have HJ : Hid (j < 8 ∧ gk = 8 - j) := ⟨hlt, hk⟩
      have HE : Hid (∀ x, S.getD j Sl.zero = x → (x.emp = true → capL S (j + 1) = capL S j) ∧ (x.emp = false → capL S (j + 1) = capL S j ++ [x.cp])) := fun x e => ⟨capL_no (by rw [HS.out]; exact hlt) e, capL_yes (by rw [HS.out]; exact hlt) e⟩
      generalize hy : S.getD j Sl.zero = x at hx
      have HE := HE.out x hy
      obtain ⟨xs, xg, xr⟩ := x
      simp only at hx
      have hem := fun u => empty_any ⟨xs, xg, xr⟩ u
      simp only at hem
      have HE := hid HE
      clear hy hk hlt hj
      obtain ⟨W1, hW1⟩ : ∃ W1, W1 = wr.alloc (.cells #[.int .i64 xs, .int .i64 xg, .int .i64 xr] 68) := ⟨_, rfl⟩
      have HV : Hid (VarAt W1 wr.heap.size [.int .i64 xs, .int .i64 xg, .int .i64 xr] ∧ Grow wr W1) := by rw [hW1]; exact ⟨VarAt.new wr [.int .i64 xs, .int .i64 xg, .int .i64 xr] _, (Grow.refl wr).alloc _⟩
      cases he : (⟨xs, xg, xr⟩ : Sl).emp
      · rw [he] at hem HE
        have HN := hid (HE.out.2 rfl)
        clear he HE
        go_wp2_with fail
        rw [← hW1]
        clear hW1
        refine (hem _).mono ?_
        rintro e w2 ⟨rfl, g2⟩
        obtain ⟨⟨n0, n1, n2⟩, -⟩ := (HV.out.1.grow g2).three
        have HG := hid (HV.out.2.trans g2)
        have ho := (HO.out.1.grow HG.out).grow ((Grow.refl w2).alloc (.cells #[.int .i64 xs, .int .i64 xg] 33))
        have hll := capL_len S j
        clear g2 hem HV
        go_wp2_with (at_builtin; refine wpList_appS (f := Cp.cs) (k := 2) rfl (.tmp 16) (.tmp 19) 35 35 rfl cpk (by omega) i0 (.agg #[.int .i64 0, .int .i64 0]) 16 Try.underlying35 hi hz0 hz1 hz2 rfl rfl rfl ho (src_oneC w2 xs xg) (by simp only [maxLen, List.length_singleton]; omega) (by simp only [List.length_singleton]; omega) ?_)
        intro v' w' ho' hu'
        have hsz : (w2.alloc (.cells #[.int .i64 xs, .int .i64 xg] 33)).heap.size = w2.heap.size + 1 := World.size_alloc _ _
        have hgs := (HO.out.2.trans HG.out).size
        have HF : Hid (OwnS Cp.cs 2 (fun i => w.heap.size ≤ i) w' v' (capL S (j + 1)) ∧ Grow w w') :=
          ⟨by rw [HN.out]; exact ho'.mono (fun i _ hi => hi.elim (fun h => h) (fun h => by omega)), UpdS.new ((HO.out.2.trans HG.out).alloc _) hu' (fun i hi => hi)⟩
        clear ho' hu' hsz hgs ho hll n0 n1 n2
        go_wp2
        go_roundg (8 - (j + 1))
        case measure => have := HJ.out; omega
        case rel => exact ⟨j + 1, rfl, HJ.out.1, by go_num, HF.out⟩
      · rw [he] at hem HE
        have HN := hid (HE.out.1 rfl)
        clear he HE
        go_wp2_with fail
        rw [← hW1]
        clear hW1
        refine (hem _).mono ?_
        rintro e w2 ⟨rfl, g2⟩
        have HF : Hid (OwnS Cp.cs 2 (fun i => w.heap.size ≤ i) w2 u3 (capL S (j + 1)) ∧ Grow w w2) := by
          rw [HN.out]
          exact ⟨HO.out.1.grow (HV.out.2.trans g2), HO.out.2.trans (HV.out.2.trans g2)⟩
        clear g2 hem HV
        go_wp2
        go_roundg (8 - (j + 1))
        case measure => have := HJ.out; omega
        case rel => exact ⟨j + 1, rfl, HJ.out.1, by go_num, HF.out⟩
    · obtain rfl : j = 8 := by omega
      have HF := HO.out
      rw [capL_all HS.out] at HF
      have HF := hid HF
      clear hk hj hlt HO
      go_wp2
      go_ret
      exact ⟨_, rfl, HF.out.1, HF.out.2⟩

set_option maxHeartbeats 4000000 in
theorem live_any (b : Nat) (S : List Sl) (k n : Int) (w : World) (h : TbAt w b S k n) (hS : S.length = 8) : Calls Try.prog 25 #[.pointer (some ⟨b, 0, none⟩)] w fun e w' => e = .returned (.int .i64 (allS S).length) ∧ Grow w w' := by
  have ha := all_caps b S k n w h hS
  have HL : Hid (((allS S).map Sl.cp).length = (allS S).length) := List.length_map _
  have hle : ((allS S).map Sl.cp).length ≤ 8 := by rw [List.length_map]; have := allS_len S; omega
  clear h
  generalize (allS S).map Sl.cp = L at ha HL hle
  go_enter Try.func25, Try.ntmps25
  go_wp2_with fail
  refine ha.mono ?_
  rintro e w2 ⟨v, rfl, ho, g2⟩
  obtain ⟨a, cc, rfl⟩ := ho.shape
  clear ho ha
  go_wp2
  go_ret
  exact ⟨ret_int (by rw [HL.out]), g2⟩

theorem new_out (k : Int) (w : World) (hk : ¬ (1 ≤ k ∧ k ≤ 1073741824)) : Calls Try.prog 10 #[.int .i64 k] w fun e w' => e = .returned (.tuple #[.pointer none, .int .i64 1]) ∧ Grow w w' := by
  by_cases h1 : k < 1
  · clear hk
    go_enter Try.func10, Try.ntmps10
    go_wp2
    go_ret2
    exact ⟨rfl, Grow.refl _⟩
  · have h2 : 1073741824 < k := by omega
    clear hk
    go_enter Try.func10, Try.ntmps10
    go_wp2
    go_ret2
    exact ⟨rfl, Grow.refl _⟩
/-- a new table's slots -/
def newS (k : Int) : List Sl := [⟨0, k * 1048576, 15⟩, Sl.zero, Sl.zero, Sl.zero, Sl.zero, Sl.zero, Sl.zero, Sl.zero]
def noS : List Sl := [Sl.zero, Sl.zero, Sl.zero, Sl.zero, Sl.zero, Sl.zero, Sl.zero, Sl.zero]
theorem newS_ok {k : Int} (h1 : 1 ≤ k) (h2 : k ≤ 1073741824) : TbOk (newS k) k 1 :=
  ⟨rfl, h1, h2, by omega, by omega, ⟨.inr ⟨rfl, by show k * 1048576 ≤ k * 1048576; omega, by show k * 1048576 < k * 1048576 + 1; omega, by show 15 < 16; omega⟩, .inl rfl, .inl rfl, .inl rfl, .inl rfl, .inl rfl, .inl rfl, .inl rfl, trivial⟩⟩
set_option maxHeartbeats 4000000 in
theorem new_in (k : Int) (w : World) (h1 : 1 ≤ k) (h2 : k ≤ 1073741824) : Calls Try.prog 10 #[.int .i64 k] w fun e w' => e = .returned (.tuple #[.pointer (some ⟨w.heap.size, 0, none⟩), .int .i64 0]) ∧ TbAt w' w.heap.size (newS k) k 1 ∧ Grow w w' := by
  obtain ⟨W0, hW0⟩ : ∃ W0, W0 = w.alloc (.cells #[.int .i64 0, .int .i64 0, .int .i64 0, .int .i64 0, .int .i64 0, .int .i64 0, .int .i64 0, .int .i64 0, .int .i64 0, .int .i64 0, .int .i64 0, .int .i64 0, .int .i64 0, .int .i64 0, .int .i64 0, .int .i64 0, .int .i64 0, .int .i64 0, .int .i64 0, .int .i64 0, .int .i64 0, .int .i64 0, .int .i64 0, .int .i64 0, .int .i64 k, .int .i64 0] 71) := ⟨_, rfl⟩
  have HX : Hid (TbAt W0 w.heap.size noS k 0 ∧ Grow w W0) := by
    rw [hW0]
    exact ⟨VarAt.new w [.int .i64 0, .int .i64 0, .int .i64 0, .int .i64 0, .int .i64 0, .int .i64 0, .int .i64 0, .int .i64 0, .int .i64 0, .int .i64 0, .int .i64 0, .int .i64 0, .int .i64 0, .int .i64 0, .int .i64 0, .int .i64 0, .int .i64 0, .int .i64 0, .int .i64 0, .int .i64 0, .int .i64 0, .int .i64 0, .int .i64 0, .int .i64 0, .int .i64 k, .int .i64 0] 71, (Grow.refl w).alloc _⟩
  obtain ⟨b, hb⟩ : ∃ b, b = w.heap.size := ⟨_, rfl⟩
  have HB : Hid (b = w.heap.size) := hb
  rw [← hb] at HX ⊢
  have ha := all_any W0
  have K5 := hid (fun u (hu : TbAt u b noS k 0) => give_any b noS k 0 0 15 u hu rfl h1 h2 (by omega) (by omega) (by omega))
  have e1 : ¬ k < 1 := by omega
  have e2 : ¬ 1073741824 < k := by omega
  clear h1 h2
  go_enter Try.func10, Try.ntmps10
  go_upto_region 4 with fail
  rw [← hW0, ← hb]
  clear hW0 hb e1 e2
  go_wp2_with fail
  refine ha.mono ?_
  rintro e w2 ⟨rfl, g2⟩
  have k5 := K5.out w2 (HX.out.1.grow g2)
  clear ha
  go_wp2_with fail
  refine k5.mono ?_
  rintro e w3 ⟨rfl, t3, u3⟩
  rw [Int.add_zero] at t3
  have HF : Hid (TbAt w3 b (newS k) k 1 ∧ Grow w w3) := ⟨t3, UpdS.new (HX.out.2.trans g2) u3 (fun i hi => by have := HB.out; omega)⟩
  clear k5 K5 t3 u3 g2
  go_wp2
  go_ret2
  exact ⟨rfl, HF.out.1, HF.out.2⟩
end Go.Proofs.Ytoobohbghobfhaa
