/-
  The walk of the document's Read. Conditions: the theorem's own.
-/
import Derived.Test.YtdafamocnjfmjaaDoorReqRd
import Derived.Test.YtdafamocnjfmjaaDoorReqGd
import Derived.Test.YtdafamocnjfmjaaDoorLast
import Derived.Deep.CutRange
namespace Go.Proofs.YtdafamocnjfmjaaDoor
open Go.RowKit
set_option linter.unusedVariables false
set_option linter.unusedSimpArgs false

theorem VarAt.eight {w : World} {b : Nat} {v0 v1 v2 v3 v4 v5 v6 v7 : Value} (h : VarAt w b [v0, v1, v2, v3, v4, v5, v6, v7]) : (w.cell? ⟨b, 0, none⟩ = some v0 ∧ w.cell? ⟨b, 1, none⟩ = some v1 ∧ w.cell? ⟨b, 2, none⟩ = some v2 ∧ w.cell? ⟨b, 3, none⟩ = some v3 ∧ w.cell? ⟨b, 4, none⟩ = some v4 ∧ w.cell? ⟨b, 5, none⟩ = some v5 ∧ w.cell? ⟨b, 6, none⟩ = some v6 ∧ w.cell? ⟨b, 7, none⟩ = some v7) ∧ w.frozen? ⟨b, 0, none⟩ = false ∧ w.frozen? ⟨b, 1, none⟩ = false ∧ w.frozen? ⟨b, 2, none⟩ = false ∧ w.frozen? ⟨b, 3, none⟩ = false ∧ w.frozen? ⟨b, 4, none⟩ = false ∧ w.frozen? ⟨b, 5, none⟩ = false ∧ w.frozen? ⟨b, 6, none⟩ = false ∧ w.frozen? ⟨b, 7, none⟩ = false :=
  ⟨⟨(h.2 0 (by simp)).1, (h.2 1 (by simp)).1, (h.2 2 (by simp)).1, (h.2 3 (by simp)).1, (h.2 4 (by simp)).1, (h.2 5 (by simp)).1, (h.2 6 (by simp)).1, (h.2 7 (by simp)).1⟩, (h.2 0 (by simp)).2, (h.2 1 (by simp)).2, (h.2 2 (by simp)).2, (h.2 3 (by simp)).2, (h.2 4 (by simp)).2, (h.2 5 (by simp)).2, (h.2 6 (by simp)).2, (h.2 7 (by simp)).2⟩
/-- eight cells of a variable written anew -/
def put8 (w : World) (b : Nat) (v0 v1 v2 v3 v4 v5 v6 v7 : Value) : World := ((((((((w.setCell ⟨b, 0, none⟩ v0).setCell ⟨b, 1, none⟩ v1).setCell ⟨b, 2, none⟩ v2).setCell ⟨b, 3, none⟩ v3).setCell ⟨b, 4, none⟩ v4).setCell ⟨b, 5, none⟩ v5).setCell ⟨b, 6, none⟩ v6).setCell ⟨b, 7, none⟩ v7)
theorem VarAt.put8 {w : World} {b : Nat} {x0 x1 x2 x3 x4 x5 x6 x7 : Value} (h : VarAt w b [x0, x1, x2, x3, x4, x5, x6, x7]) (v0 v1 v2 v3 v4 v5 v6 v7 : Value) : VarAt (YtdafamocnjfmjaaDoor.put8 w b v0 v1 v2 v3 v4 v5 v6 v7) b [v0, v1, v2, v3, v4, v5, v6, v7] :=
  (((((((h.set 0 v0).set 1 v1).set 2 v2).set 3 v3).set 4 v4).set 5 v5).set 6 v6).set 7 v7
theorem upd_put8 (w : World) (b : Nat) (v0 v1 v2 v3 v4 v5 v6 v7 : Value) : UpdS (fun k => k = b) w (put8 w b v0 v1 v2 v3 v4 v5 v6 v7) :=
  (((((((upd_one w b 0 v0).trans (upd_one _ b 1 v1)).trans (upd_one _ b 2 v2)).trans (upd_one _ b 3 v3)).trans (upd_one _ b 4 v4)).trans (upd_one _ b 5 v5)).trans (upd_one _ b 6 v6)).trans (upd_one _ b 7 v7)
theorem load_X8 (b : Nat) (x0 x1 x2 x3 x4 x5 e : Int) (v : Value) (w : World) (h : VarAt w b [.int .i64 x0, .int .i64 x1, .int .i64 x2, .int .i64 x3, .int .i64 x4, .int .i64 x5, v, .int .i64 e]) (hv : v.oneCell' = true) : (loadVar 46 ⟨b, 0, none⟩).run Tryd.prog w = .ok (.agg #[.int .i64 x0, .int .i64 x1, .int .i64 x2, .int .i64 x3, .int .i64 x4, .int .i64 x5, v, .int .i64 e]) w := by
  obtain ⟨⟨h0, h1, h2, h3, h4, h5, h6, h7⟩, -⟩ := h.eight
  cases v <;> simp [Value.oneCell'] at hv <;> go_simp

theorem RAt.madeB (w : World) (a : Option Addr) (cp B : Nat) (zs : List Int) (t : TypeId) (h : Rd .u8 B w (.slice a zs.length cp) zs) (hB : B ≤ w.heap.size) :
    RAt (w.alloc (.cells #[.slice a zs.length cp, .int .i64 0, .bool false] t)) w.heap.size B zs 0 false :=
  ⟨a, cp, (World.cell?_alloc_new w _ _ 0).trans rfl, (World.cell?_alloc_new w _ _ 1).trans rfl, (World.cell?_alloc_new w _ _ 2).trans rfl, World.frozen?_alloc_new w _ _ _, World.frozen?_alloc_new w _ _ _, World.frozen?_alloc_new w _ _ _, h.below (((Grow.refl w).alloc _).below hB), hB⟩

theorem Tryd.infoI : (Tryd.prog.info? 3).map (fun i => (i.zero, i.size, i.bytes)) = some (some (.int .i64 0), 1, 8) := by kernel_rfl

/-- the first numbers -/
def nkL (ys : List Int) (j : Nat) : List Int := (List.range j).map (nk ys)
theorem nkL_succ (ys : List Int) (j : Nat) : nkL ys (j + 1) = nkL ys j ++ [nk ys j] := by simp [nkL, List.range_succ]
theorem nkL_length (ys : List Int) (j : Nat) : (nkL ys j).length = j := by simp [nkL]
theorem nkL_get (ys : List Int) (j k : Nat) (h : k < j) : (nkL ys j).getD k 0 = nk ys k := by simp [nkL, List.getD, h]

/-- where the document's Read stands behind so many numbers -/
def RdW (ys : List Int) (w : World) (j i : Nat) (bad : Bool) (d : Value) (wr : World) : Prop :=
  Sync ys (zk ys j) (ek ys j) i bad ∧ RAt wr (w.heap.size + 1) w.heap.size ys i bad ∧ Own .i64 (w.heap.size + 2) wr d (nkL ys j) ∧ VarAt wr w.heap.size [.int .i64 0, .int .i64 0, .int .i64 0, .int .i64 0, .int .i64 0, .int .i64 0, .slice none 0 0, .int .i64 0] ∧ Grow w wr ∧ w.heap.size + 2 ≤ wr.heap.size

set_option maxRecDepth 8000 in
set_option maxHeartbeats 8000000 in
theorem rreadq_any (w : World) (v : Value) (ys : List Int) (B : Nat) (h : Rd .u8 B w v ys) (hby : Byte ys) (hl : ys.length ≤ 1000000) :
    Calls Tryd.prog 22 #[v] w fun e w' => ∃ u, e = .returned (.agg #[.int .i64 (rdN ys 0), .int .i64 (rdN ys 1), .int .i64 (rdN ys 2), .int .i64 (rdN ys 3), .int .i64 (rdN ys 4), .int .i64 (rdN ys 5), u, .int .i64 (rdE ys)]) ∧ Rd .u8 w'.heap.size w' u (rdZ ys) ∧ Grow w w' := by
  obtain ⟨i0, hi, hz0, hz1, hz2⟩ := info_parts Tryd.infoI
  have hs := Rd.size h
  obtain ⟨a, cp, rfl, -⟩ := h
  have HW0 : Hid (RdW ys w 0 0 false (.slice none 0 0) ((w.alloc (.cells #[.int .i64 0, .int .i64 0, .int .i64 0, .int .i64 0, .int .i64 0, .int .i64 0, .slice none 0 0, .int .i64 0] 46)).alloc (.cells #[.slice a ys.length cp, .int .i64 0, .bool false] 70))) := by
    have g0 : Grow w (w.alloc (.cells #[.int .i64 0, .int .i64 0, .int .i64 0, .int .i64 0, .int .i64 0, .int .i64 0, .slice none 0 0, .int .i64 0] 46)) := (Grow.refl w).alloc _
    have hm := RAt.madeB (w.alloc (.cells #[.int .i64 0, .int .i64 0, .int .i64 0, .int .i64 0, .int .i64 0, .int .i64 0, .slice none 0 0, .int .i64 0] 46)) a cp w.heap.size ys 70 (hs.below g0) (by simp)
    rw [World.size_alloc] at hm
    exact ⟨Sync.start ys, hm, Own.nil _ _ _ _, (VarAt.new w _ _).old _, g0.alloc _, by simp⟩
  have HST : Hid (∀ (j i : Nat) (bad : Bool), Sync ys (zk ys j) (ek ys j) i bad → ∃ i' bad', Sync ys (zk ys (j + 1)) (ek ys (j + 1)) i' bad' ∧ ∀ (w : World) (c B : Nat), RAt w c B ys i bad → Calls Tryd.prog 38 #[.pointer (some ⟨c, 0, none⟩)] w fun en w' => en = .returned (.int .u64 (uval (zk ys j))) ∧ RAt w' c B ys i' bad' ∧ Upd c w w') := fun j i bad h => h.uint hby hl
  have HBY : Hid (∀ (i : Nat) (bad : Bool), Sync ys (zk ys 6) (ek ys 6) i bad → ∃ (i' : Nat) (bad' : Bool), Sync ys (bq (zk ys 6)).2.1 (bq (zk ys 6)).2.2 i' bad' ∧ ∀ (w : World) (c B : Nat), RAt w c B ys i bad → Calls Tryd.prog 39 #[.pointer (some ⟨c, 0, none⟩), .int .i64 32] w fun en w' => ∃ v, en = .returned v ∧ Rd .u8 B w' v (bq (zk ys 6)).1 ∧ RAt w' c B ys i' bad' ∧ Upd c w w') := fun i bad h => by
    obtain ⟨i', bad', h1, -, h3⟩ := bytes_both h hby hl
    exact ⟨i', bad', h1, h3⟩
  have HEN : Hid (∀ (i : Nat) (bad : Bool), Sync ys (bq (zk ys 6)).2.1 (bq (zk ys 6)).2.2 i bad → ∀ (w : World) (c B : Nat), RAt w c B ys i bad → Calls Tryd.prog 40 #[.pointer (some ⟨c, 0, none⟩)] w fun e w' => e = .returned (.int .i64 (rdE ys)) ∧ Grow w w') := fun i bad h w c B hr => by
    have := endW_any c B ys i bad w hr h.1 hl
    rw [← h.fin] at this
    exact this
  have HE2 := rdE_02 ys
  have HN : Hid ((rdE ys = 0 → (∀ k, rdN ys k = nk ys k) ∧ rdZ ys = (bq (zk ys 6)).1) ∧ (rdE ys = 2 → (∀ k, rdN ys k = 0) ∧ rdZ ys = [])) :=
    ⟨fun h => ⟨fun k => if_pos h, if_pos h⟩, fun h => ⟨fun k => if_neg (by omega), if_neg (by omega)⟩⟩
  have HM : Hid ((rdE ys = 0 → rdN ys 0 = nk ys 0 ∧ rdN ys 1 = nk ys 1 ∧ rdN ys 2 = nk ys 2 ∧ rdN ys 3 = nk ys 3 ∧ rdN ys 4 = nk ys 4 ∧ rdN ys 5 = nk ys 5 ∧ rdZ ys = (bq (zk ys 6)).1) ∧ (rdE ys = 2 → rdN ys 0 = 0 ∧ rdN ys 1 = 0 ∧ rdN ys 2 = 0 ∧ rdN ys 3 = 0 ∧ rdN ys 4 = 0 ∧ rdN ys 5 = 0 ∧ rdZ ys = [])) :=
    ⟨fun h => have q := HN.out.1 h; ⟨q.1 0, q.1 1, q.1 2, q.1 3, q.1 4, q.1 5, q.2⟩, fun h => have q := HN.out.2 h; ⟨q.1 0, q.1 1, q.1 2, q.1 3, q.1 4, q.1 5, q.2⟩⟩
  clear HN hs
  generalize rdE ys = er at *
  generalize rdN ys 0 = r0 at *
  generalize rdN ys 1 = r1 at *
  generalize rdN ys 2 = r2 at *
  generalize rdN ys 3 = r3 at *
  generalize rdN ys 4 = r4 at *
  generalize rdN ys 5 = r5 at *
  generalize rdZ ys = rz at *
  go_enter Tryd.func22, Tryd.ntmps22
  go_wp2
  go_loopg [4, 5] 6 (fun k d ix wr => ∃ (j i : Nat) (bad : Bool), k = 6 - j ∧ j ≤ 6 ∧ ix = .int .i64 j ∧ Hid (RdW ys w j i bad d wr))
  case atStart => exact ⟨0, 0, false, rfl, Nat.zero_le _, rfl, HW0⟩
  case round =>
    obtain ⟨j, i, bad, hk, hj, rfl, HR⟩ := hrel
    clear HW0
    by_cases hlt : j < 6
    · have hlt' : (j : Int) < 6 := by omega
      obtain ⟨i2, bad2, hs2, hU⟩ := HST.out j i bad HR.out.1
      have hun := hU wr _ _ HR.out.2.1
      have HJ : Hid (j < 6 ∧ gk = 6 - j ∧ Sync ys (zk ys (j + 1)) (ek ys (j + 1)) i2 bad2 ∧ nkL ys (j + 1) = nkL ys j ++ [wrap64 (uval (zk ys j))]) := ⟨hlt, hk, hs2, nkL_succ ys j⟩
      have hlen : (nkL ys j).length ≤ 6 := by rw [nkL_length]; omega
      clear hk hlt hs2 hU
      generalize uval (zk ys j) = q at *
      go_wp2_with fail
      refine hun.mono ?_
      rintro e w1 ⟨rfl, hr1, hu1⟩
      have hcv : IntKind.i64.wrap q = wrap64 q := by rw [IntKind.wrap_i64]; unfold wrap64; rfl
      have H1 : Hid (RAt w1 (w.heap.size + 1) w.heap.size ys i2 bad2 ∧ Own .i64 (w.heap.size + 2) w1 _ (nkL ys j) ∧ VarAt w1 w.heap.size [.int .i64 0, .int .i64 0, .int .i64 0, .int .i64 0, .int .i64 0, .int .i64 0, .slice none 0 0, .int .i64 0] ∧ Grow w w1 ∧ w.heap.size + 2 ≤ w1.heap.size) :=
        ⟨hr1, Own.upd HR.out.2.2.1 hu1 (fun i hi => by omega), HR.out.2.2.2.1.upd hu1 (by omega), UpdS.new HR.out.2.2.2.2.1 hu1 (fun i hi => by omega), Nat.le_trans HR.out.2.2.2.2.2 hu1.size⟩
      clear hun hr1 hu1
      generalize wrap64 q = x at *
      have hO := H1.out.2.1
      have hBz := H1.out.2.2.2.2
      go_wp2_with (at_builtin; refine wpList_app rfl (.tmp 14) (.tmp 18) 50 50 rfl i0 (.int .i64 0) 8 Tryd.underlying50 hi hz0 hz1 hz2 rfl rfl rfl (hO.alloc _) (Src.one (w := w1) Tryd.underlying50 .i64 x 3) (by simp only [maxLen, List.length_singleton]; omega) (by simp only [List.length_singleton]; omega) (by simp; omega) ?_)
      intro v3 w3 ho3 hb3
      have g13 : UpdS (fun i => w.heap.size + 2 ≤ i) w1 w3 := (((Grow.refl w1).alloc _).s).trans (below_s hb3)
      have H3 : Hid (RdW ys w (j + 1) i2 bad2 v3 w3) :=
        ⟨HJ.out.2.2.1, H1.out.1.upd g13 (fun i hi => by omega) (by omega), by rw [HJ.out.2.2.2]; exact ho3, H1.out.2.2.1.upd g13 (by omega), UpdS.new H1.out.2.2.2.1 g13 (fun i hi => by omega), Nat.le_trans hBz g13.size⟩
      clear ho3 hb3 g13 hO hBz H1 hcv
      go_wp2
      go_roundg (6 - (j + 1))
      case measure => have := HJ.out; omega
      case rel => exact ⟨j + 1, i2, bad2, rfl, HJ.out.1, by go_num, H3⟩
    · obtain rfl : j = 6 := by omega
      obtain ⟨i2, bad2, hs2, hB⟩ := HBY.out i bad HR.out.1
      have hby2 := hB wr _ _ HR.out.2.1
      have hen := fun (u : World) (hr : RAt u (w.heap.size + 1) w.heap.size ys i2 bad2) => HEN.out i2 bad2 hs2 u _ _ hr
      clear hlt hj hk hs2 hB HBY HEN HST
      go_wp2_with fail
      refine hby2.mono ?_
      rintro e w1 ⟨vd, rfl, ho1, hr1, hu1⟩
      have H1 : Hid (RAt w1 (w.heap.size + 1) w.heap.size ys i2 bad2 ∧ Own .i64 (w.heap.size + 2) w1 _ (nkL ys 6) ∧ VarAt w1 w.heap.size [.int .i64 0, .int .i64 0, .int .i64 0, .int .i64 0, .int .i64 0, .int .i64 0, .slice none 0 0, .int .i64 0] ∧ Grow w w1 ∧ Rd .u8 w.heap.size w1 vd (bq (zk ys 6)).1) :=
        ⟨hr1, Own.upd HR.out.2.2.1 hu1 (fun i hi => by omega), HR.out.2.2.2.1.upd hu1 (by omega), UpdS.new HR.out.2.2.2.2.1 hu1 (fun i hi => by omega), ho1⟩
      obtain ⟨ad, cd, rfl, -⟩ := ho1
      clear hby2 hr1 hu1 HR
      go_wp2_with fail
      refine (hen _ H1.out.1).mono ?_
      rintro e w2 ⟨rfl, g2⟩
      have H2 : Hid (Own .i64 (w.heap.size + 2) w2 _ (nkL ys 6) ∧ VarAt w2 w.heap.size [.int .i64 0, .int .i64 0, .int .i64 0, .int .i64 0, .int .i64 0, .int .i64 0, .slice none 0 0, .int .i64 0] ∧ Grow w w2 ∧ Rd .u8 w.heap.size w2 (.slice ad (bq (zk ys 6)).1.length cd) (bq (zk ys 6)).1) :=
        ⟨Own.upd (S := fun _ => False) H1.out.2.1 g2.s (fun i f => f.elim), H1.out.2.2.1.grow g2, H1.out.2.2.2.1.trans g2, H1.out.2.2.2.2.below (g2.below H1.out.2.2.2.1.size)⟩
      clear hen g2 H1
      generalize (bq (zk ys 6)).1 = zd at *
      rcases HE2 with he | he
      · subst he
        obtain ⟨rfl, rfl, rfl, rfl, rfl, rfl, rfl⟩ := HM.out.1 rfl
        have hrd := H2.out.1.rd
        obtain ⟨al, cl, rfl⟩ := H2.out.1.shape
        obtain ⟨-, hlc, hcm, bl, ol, rfl, hlt2, hc⟩ := hrd.addr (by rw [nkL_length]; omega)
        rw [nkL_length] at hc
        have fx : ∀ w', Grow w2.drew w' → w'.cell? ⟨bl, ol, none⟩ = some (.int .i64 (nk ys 0)) ∧ w'.cell? ⟨bl, ol + 1, none⟩ = some (.int .i64 (nk ys 1)) ∧ w'.cell? ⟨bl, ol + 2, none⟩ = some (.int .i64 (nk ys 2)) ∧ w'.cell? ⟨bl, ol + 3, none⟩ = some (.int .i64 (nk ys 3)) ∧ w'.cell? ⟨bl, ol + 4, none⟩ = some (.int .i64 (nk ys 4)) ∧ w'.cell? ⟨bl, ol + 5, none⟩ = some (.int .i64 (nk ys 5)) := fun w' g => by
          have hh : ∀ k, k < 6 → w'.cell? ⟨bl, ol + k, none⟩ = some (.int .i64 (nk ys k)) := fun k hk => by
            have h1 := hc k hk
            rw [nkL_get ys 6 k hk] at h1
            have g' := Grow.trans (Grow.refl w2).drew g
            rw [Below.cell (p := ⟨bl, ol + k, none⟩) g' (World.block_lt_of_cell? _ _ h1)]; exact h1
          exact ⟨hh 0 (by omega), hh 1 (by omega), hh 2 (by omega), hh 3 (by omega), hh 4 (by omega), hh 5 (by omega)⟩
        have HV : Hid (VarAt w2.drew w.heap.size [.int .i64 0, .int .i64 0, .int .i64 0, .int .i64 0, .int .i64 0, .int .i64 0, .slice none 0 0, .int .i64 0] ∧ Grow w w2.drew ∧ Rd .u8 w.heap.size w2.drew (.slice ad rz.length cd) rz) := ⟨H2.out.2.1.grow (Grow.refl _).drew, H2.out.2.2.1.trans (Grow.refl _).drew, H2.out.2.2.2.below ((Grow.refl w2).drew.below H2.out.2.2.1.size)⟩
        clear hc hlt2 hlc hcm hrd H2 HM
        rw [nkL_length]
        generalize hq0 : nk ys 0 = r0 at *
        generalize hq1 : nk ys 1 = r1 at *
        generalize hq2 : nk ys 2 = r2 at *
        generalize hq3 : nk ys 3 = r3 at *
        generalize hq4 : nk ys 4 = r4 at *
        generalize hq5 : nk ys 5 = r5 at *
        have HQ : Hid (nk ys 0 = r0 ∧ nk ys 1 = r1 ∧ nk ys 2 = r2 ∧ nk ys 3 = r3 ∧ nk ys 4 = r4 ∧ nk ys 5 = r5) := ⟨hq0, hq1, hq2, hq3, hq4, hq5⟩
        clear hq0 hq1 hq2 hq3 hq4 hq5
        go_wp2
        refine wp_region_last 22 (by kernel_rfl) [(0, false), (1, false), (2, false), (3, false), (4, false), (5, false), (6, false), (7, false), (8, false), (9, false), (10, false), (11, false), (12, false), (13, false), (14, false), (15, false), (16, false), (17, false), (18, false), (19, false), (20, false), (21, false)] (by kernel_rfl) (by kernel_rfl) rfl (fun _ _ d _ _ h => by cases d <;> exact h) ?_
        simp only [inOrder, List.filterMap_cons, List.filterMap_nil, List.getElem?_toArray, List.getElem?_cons_zero, List.getElem?_cons_succ, Option.map_some]
        repeat (first
          | (refine wpS_move rfl ?_; simp only [Act.eval, Act.put, Array.getD_eq_getD_getElem?, List.getElem?_toArray, List.getElem?_cons_zero, List.getElem?_cons_succ, Option.getD_some, List.setIfInBounds_toArray, List.set_cons_zero, List.set_cons_succ])
          | (refine wpS_assign rfl ?_; simp only [Act.eval, Act.put, Array.getD_eq_getD_getElem?, List.getElem?_toArray, List.getElem?_cons_zero, List.getElem?_cons_succ, Option.getD_some, List.setIfInBounds_toArray, List.set_cons_zero, List.set_cons_succ])
          | (refine wpS_read (v := ?_) rfl ?_ ?_; rotate_left; (focus (intro w' hG; obtain ⟨q0, q1, q2, q3, q4, q5⟩ := fx w' hG; go_simp; try (with_reducible rfl))); simp only [Act.put, List.setIfInBounds_toArray, List.set_cons_zero, List.set_cons_succ])
          | (refine wpS_skip rfl ?_; simp only [Act.put, List.setIfInBounds_toArray, List.set_cons_zero, List.set_cons_succ]))
        refine wpS_nil ?_
        clear fx
        generalize w2.drew = w3 at *
        obtain ⟨⟨c0, c1, c2, c3, c4, c5, c6, c7⟩, f0, f1, f2, f3, f4, f5, f6, f7⟩ := HV.out.1.eight
        refine last_store (w' := put8 w3 w.heap.size (.int .i64 r0) (.int .i64 r1) (.int .i64 r2) (.int .i64 r3) (.int .i64 r4) (.int .i64 r5) (.slice ad rz.length cd) (.int .i64 0)) rfl rfl (by unfold put8; go_simp) ?_
        simp only [Act.put, List.setIfInBounds_toArray, List.set_cons_zero, List.set_cons_succ]
        have hu := upd_put8 w3 w.heap.size (.int .i64 r0) (.int .i64 r1) (.int .i64 r2) (.int .i64 r3) (.int .i64 r4) (.int .i64 r5) (.slice ad rz.length cd) (.int .i64 0)
        have HF : Hid (VarAt (put8 w3 w.heap.size (.int .i64 r0) (.int .i64 r1) (.int .i64 r2) (.int .i64 r3) (.int .i64 r4) (.int .i64 r5) (.slice ad rz.length cd) (.int .i64 0)) w.heap.size [.int .i64 r0, .int .i64 r1, .int .i64 r2, .int .i64 r3, .int .i64 r4, .int .i64 r5, .slice ad rz.length cd, .int .i64 0] ∧ Grow w (put8 w3 w.heap.size (.int .i64 r0) (.int .i64 r1) (.int .i64 r2) (.int .i64 r3) (.int .i64 r4) (.int .i64 r5) (.slice ad rz.length cd) (.int .i64 0)) ∧ Rd .u8 w.heap.size (put8 w3 w.heap.size (.int .i64 r0) (.int .i64 r1) (.int .i64 r2) (.int .i64 r3) (.int .i64 r4) (.int .i64 r5) (.slice ad rz.length cd) (.int .i64 0)) (.slice ad rz.length cd) rz) :=
          ⟨HV.out.1.put8 _ _ _ _ _ _ _ _, UpdS.new HV.out.2.1 hu (fun i hi => by omega), HV.out.2.2.below (hu.below HV.out.2.1.size (fun i hi => by omega))⟩
        clear hu c0 c1 c2 c3 c4 c5 c6 c7 f0 f1 f2 f3 f4 f5 f6 f7 HV
        generalize put8 w3 w.heap.size (.int .i64 r0) (.int .i64 r1) (.int .i64 r2) (.int .i64 r3) (.int .i64 r4) (.int .i64 r5) (.slice ad rz.length cd) (.int .i64 0) = w4 at *
        go_wp2
        exact bodyPost_ret_by (results_cell rfl _ _ _ _ rfl (load_X8 w.heap.size r0 r1 r2 r3 r4 r5 0 (.slice ad rz.length cd) _ HF.out.1 rfl)) rfl ⟨.slice ad rz.length cd, by rw [HQ.out.1, HQ.out.2.1, HQ.out.2.2.1, HQ.out.2.2.2.1, HQ.out.2.2.2.2.1, HQ.out.2.2.2.2.2], Rd.size HF.out.2.2, HF.out.2.1⟩
      · subst he
        obtain ⟨rfl, rfl, rfl, rfl, rfl, rfl, rfl⟩ := HM.out.2 rfl
        obtain ⟨⟨c0, c1, c2, c3, c4, c5, c6, c7⟩, f0, f1, f2, f3, f4, f5, f6, f7⟩ := H2.out.2.1.eight
        clear HM
        go_wp2
        have hu := upd_put8 w2 w.heap.size (.int .i64 0) (.int .i64 0) (.int .i64 0) (.int .i64 0) (.int .i64 0) (.int .i64 0) (.slice none 0 0) (.int .i64 2)
        exact bodyPost_ret_by (results_cell rfl _ _ _ _ rfl (load_X8 w.heap.size 0 0 0 0 0 0 2 (.slice none 0 0) _ (H2.out.2.1.put8 _ _ _ _ _ _ _ _) rfl)) rfl ⟨_, rfl, Rd.nil _ _ _ _ _ (Nat.zero_le _), UpdS.new H2.out.2.2.1 hu (fun i hi => by omega)⟩
end Go.Proofs.YtdafamocnjfmjaaDoor
