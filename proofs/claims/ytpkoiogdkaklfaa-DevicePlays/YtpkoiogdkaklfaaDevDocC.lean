/-
  The walk of the document's Crash. Conditions: each theorem's own.
-/
import Derived.Test.YtpkoiogdkaklfaaDevDocB
import Derived.Test.YtpkoiogdkaklfaaBitsRef
namespace Go.Proofs.Ytpkoiogdkaklfaa
open Go.RowKit
set_option linter.unusedVariables false
set_option linter.unusedSimpArgs false

theorem results_cell_cell {P : Program} {fn : Func} {p t : Tmp} {ty ty2 : TypeId} (h : fn.results = #[.cell p ty, .cell t ty2]) (tmps : Array Value) (w : World) (x y : Addr) (v u : Value) (hp : tmps.getD p undef = .pointer (some x)) (ht : tmps.getD t undef = .pointer (some y))
    (hl : (loadVar ty x).run P w = .ok v w) (hl2 : (loadVar ty2 y).run P w = .ok u w) : (results fn tmps).run P w = .ok (.tuple #[v, u]) w := by
  have hp' : tmps[p]?.getD undef = .pointer (some x) := by simpa using hp
  have ht' : tmps[t]?.getD undef = .pointer (some y) := by simpa using ht
  simp only [results, h]
  simp [hp', ht', asAddr, hl, hl2]

set_option maxRecDepth 8000 in
set_option maxHeartbeats 4000000 in
theorem qcrash_any (p : Nat → Prop) (lv tv hv : Value) (las lat : List (List Int)) (hd : List Int) (w : World) (h : DocV p w lv tv hv las lat hd) (ok : DevOk las lat hd) (f t : Int) (hf : (Lit.int .i64 f).wf = true) (ht : (Lit.int .i64 t).wf = true) (q0 : Nat → Prop) (sv : Value) (ls : List Bool) (hs : RdV Value.bool false q0 w sv ls) (hp : ∀ i, w.heap.size ≤ i → p i) :
    Calls Try.prog 34 #[.agg #[lv, tv, hv], .int .i64 f, .int .i64 t, .agg #[sv, .int .i64 0]] w fun e w' => ∃ lv' tv' hv' sv' n, e = .returned (.tuple #[.agg #[lv', tv', hv'], .agg #[sv', .int .i64 n]]) ∧ DocV p w' lv' tv' hv' (crashL ((las, lat), ls) (laterL lat f t)).1.1 (crashL ((las, lat), ls) (laterL lat f t)).1.2 hd ∧ RdV Value.bool false (fun i => i < w.heap.size) w' sv' (crashL ((las, lat), ls) (laterL lat f t)).2 ∧ Grow w w' := by
  have HQ : Hid (DocV (fun i => p i ∧ i ≠ w.heap.size ∧ i ≠ w.heap.size + 1 ∧ i ≠ w.heap.size + 1 + 1 ∧ i ≠ w.heap.size + 1 + 1 + 1) w lv tv hv las lat hd) := h.mono (fun i hi h => ⟨h, by omega, by omega, by omega, by omega⟩)
  have hq : ∀ i, w.heap.size + 4 ≤ i → (p i ∧ i ≠ w.heap.size ∧ i ≠ w.heap.size + 1 ∧ i ≠ w.heap.size + 1 + 1 ∧ i ≠ w.heap.size + 1 + 1 + 1) := fun i hi => ⟨hp i (by omega), by omega, by omega, by omega, by omega⟩
  have HSt : Hid (RdV Value.bool false (fun i => i < w.heap.size) w sv ls) := hs.mono (fun i hi _ => hi)
  obtain ⟨a, c, rfl, hc1, hc2⟩ := h.1.shape
  obtain ⟨a2, c2, rfl, hd1, hd2⟩ := h.2.1.shape
  obtain ⟨a3, c3, rfl⟩ := h.2.2.shape
  obtain ⟨as0, cs0, rfl⟩ := hs.shape
  have hlb := ok.2.2.2.2.2
  have hll := ok.1
  unfold maxLen at hc2 hd2
  have HV : Hid (VarAt ((((w.alloc (.cells #[.slice a las.length c, .slice a2 lat.length c2, .slice a3 hd.length c3] 31)).alloc (.cells #[.slice as0 ls.length cs0, .int .i64 0] 68)).alloc (.cells #[.slice none 0 0, .slice none 0 0, .slice none 0 0] 31)).alloc (.cells #[.slice none 0 0, .int .i64 0] 68)) w.heap.size [.slice a las.length c, .slice a2 lat.length c2, .slice a3 hd.length c3] ∧ VarAt ((((w.alloc (.cells #[.slice a las.length c, .slice a2 lat.length c2, .slice a3 hd.length c3] 31)).alloc (.cells #[.slice as0 ls.length cs0, .int .i64 0] 68)).alloc (.cells #[.slice none 0 0, .slice none 0 0, .slice none 0 0] 31)).alloc (.cells #[.slice none 0 0, .int .i64 0] 68)) (w.heap.size + 1) [.slice as0 ls.length cs0, .int .i64 0] ∧ VarAt ((((w.alloc (.cells #[.slice a las.length c, .slice a2 lat.length c2, .slice a3 hd.length c3] 31)).alloc (.cells #[.slice as0 ls.length cs0, .int .i64 0] 68)).alloc (.cells #[.slice none 0 0, .slice none 0 0, .slice none 0 0] 31)).alloc (.cells #[.slice none 0 0, .int .i64 0] 68)) (w.heap.size + 1 + 1) [.slice none 0 0, .slice none 0 0, .slice none 0 0] ∧ VarAt ((((w.alloc (.cells #[.slice a las.length c, .slice a2 lat.length c2, .slice a3 hd.length c3] 31)).alloc (.cells #[.slice as0 ls.length cs0, .int .i64 0] 68)).alloc (.cells #[.slice none 0 0, .slice none 0 0, .slice none 0 0] 31)).alloc (.cells #[.slice none 0 0, .int .i64 0] 68)) (w.heap.size + 1 + 1 + 1) [.slice none 0 0, .int .i64 0] ∧ Grow w ((((w.alloc (.cells #[.slice a las.length c, .slice a2 lat.length c2, .slice a3 hd.length c3] 31)).alloc (.cells #[.slice as0 ls.length cs0, .int .i64 0] 68)).alloc (.cells #[.slice none 0 0, .slice none 0 0, .slice none 0 0] 31)).alloc (.cells #[.slice none 0 0, .int .i64 0] 68))) := by
    have hg : ∀ W o, Grow W (World.alloc W o) := fun W o => (Grow.refl W).alloc o
    refine ⟨(((VarAt.new w [.slice a las.length c, .slice a2 lat.length c2, .slice a3 hd.length c3] 31).grow (hg _ _)).grow (hg _ _)).grow (hg _ _), ((VarAt.new2 w _ [.slice as0 ls.length cs0, .int .i64 0] 68).grow (hg _ _)).grow (hg _ _), (VarAt.new3 w _ _ [.slice none 0 0, .slice none 0 0, .slice none 0 0] 31).grow (hg _ _), ?_, (((hg _ _).trans (hg _ _)).trans (hg _ _)).trans (hg _ _)⟩
    have := VarAt.new (((w.alloc (.cells #[.slice a las.length c, .slice a2 lat.length c2, .slice a3 hd.length c3] 31)).alloc (.cells #[.slice as0 ls.length cs0, .int .i64 0] 68)).alloc (.cells #[.slice none 0 0, .slice none 0 0, .slice none 0 0] 31)) [.slice none 0 0, .int .i64 0] 68
    rw [World.size_alloc, World.size_alloc, World.size_alloc] at this
    exact this
  have hlt0 := fun w' (g : Grow w w') => qlater_any p _ _ _ las lat hd w' (h.grow g) ok f t hf ht
  have HN : Hid (laterL lat f t).Nodup := nodup_laterL lat f t
  have HI : Hid (∀ x ∈ laterL lat f t, x < lat.length) := fun x hx => (mem_laterL.1 hx).1
  have hlen : (laterL lat f t).length ≤ 1024 := by have h1 := laterL_length lat f t; omega
  generalize laterL lat f t = l at hlt0 HN HI hlen
  have HLL : Hid (lat.length = las.length ∧ las.length ≤ 1024) := ⟨hll, hlb⟩
  clear h ok hll hlb hs
  go_enter Try.func34, Try.ntmps34
  go_wp2_with fail
  refine (hlt0 _ HV.out.2.2.2.2).mono ?_
  rintro e w1 ⟨v1, rfl, ho1, hg1⟩
  generalize ((((w.alloc (.cells #[.slice a las.length c, .slice a2 lat.length c2, .slice a3 hd.length c3] 31)).alloc (.cells #[.slice as0 ls.length cs0, .int .i64 0] 68)).alloc (.cells #[.slice none 0 0, .slice none 0 0, .slice none 0 0] 31)).alloc (.cells #[.slice none 0 0, .int .i64 0] 68)) = w0 at HV ho1 hg1
  obtain ⟨a1, c1, rfl⟩ := ho1.shape
  have HS0 : Hid (w.heap.size + 4 ≤ w0.heap.size ∧ w0.heap.size ≤ w1.heap.size) := ⟨HV.out.2.2.2.1.lt, hg1.size⟩
  have HO : Hid (OwnV natV 0 (fun i => w.heap.size + 4 ≤ i) w1 (.slice a1 l.length c1) l ∧ Grow w w1) := ⟨ho1.mono (fun i _ hi => by have := HS0.out; omega), HV.out.2.2.2.2.trans hg1⟩
  have DV0 : Hid (DocVar w1 w.heap.size (fun i => p i ∧ i ≠ w.heap.size ∧ i ≠ w.heap.size + 1 ∧ i ≠ w.heap.size + 1 + 1 ∧ i ≠ w.heap.size + 1 + 1 + 1) las lat hd ∧ VarAt w1 (w.heap.size + 1) [.slice as0 ls.length cs0, .int .i64 0] ∧ RdV Value.bool false (fun i => i < w.heap.size) w1 (.slice as0 ls.length cs0) ls ∧ VarAt w1 (w.heap.size + 1 + 1) [.slice none 0 0, .slice none 0 0, .slice none 0 0] ∧ VarAt w1 (w.heap.size + 1 + 1 + 1) [.slice none 0 0, .int .i64 0]) :=
    ⟨⟨_, _, _, HV.out.1.grow hg1, HQ.out.grow (HV.out.2.2.2.2.trans hg1), by omega⟩, HV.out.2.1.grow hg1, HSt.out.grow (HV.out.2.2.2.2.trans hg1), HV.out.2.2.1.grow hg1, HV.out.2.2.2.1.grow hg1⟩
  clear ho1 hg1 hlt0 hc1 hd1
  go_wp2
  go_loopg [11] l.length (fun k i wr => ∃ j : Nat, k = l.length - j ∧ j ≤ l.length ∧ i = .int .i64 j ∧ Hid (∃ (sv : Value) (m : Int), 0 ≤ m ∧ m ≤ j ∧ DocVar wr w.heap.size (fun i => p i ∧ i ≠ w.heap.size ∧ i ≠ w.heap.size + 1 ∧ i ≠ w.heap.size + 1 + 1 ∧ i ≠ w.heap.size + 1 + 1 + 1) (crashL ((las, lat), ls) (l.take j)).1.1 (crashL ((las, lat), ls) (l.take j)).1.2 hd ∧ VarAt wr (w.heap.size + 1) [sv, .int .i64 m] ∧ RdV Value.bool false (fun i => i < w.heap.size) wr sv (crashL ((las, lat), ls) (l.take j)).2 ∧ VarAt wr (w.heap.size + 1 + 1) [.slice none 0 0, .slice none 0 0, .slice none 0 0] ∧ VarAt wr (w.heap.size + 1 + 1 + 1) [.slice none 0 0, .int .i64 0] ∧ UpdS (fun i => i = w.heap.size ∨ i = w.heap.size + 1 ∨ w1.heap.size ≤ i) w1 wr))
  case atStart => exact ⟨0, rfl, Nat.zero_le _, rfl, _, 0, by omega, by omega, DV0.out.1, DV0.out.2.1, DV0.out.2.2.1, DV0.out.2.2.2.1, DV0.out.2.2.2.2, UpdS.refl _ _⟩
  case round =>
    obtain ⟨j, hk, hj, rfl, HD0⟩ := hrel
    obtain ⟨sv0, m0, hm0, hm1, HD1⟩ := HD0.out
    have HD : Hid (DocVar wr w.heap.size (fun i => p i ∧ i ≠ w.heap.size ∧ i ≠ w.heap.size + 1 ∧ i ≠ w.heap.size + 1 + 1 ∧ i ≠ w.heap.size + 1 + 1 + 1) (crashL ((las, lat), ls) (l.take j)).1.1 (crashL ((las, lat), ls) (l.take j)).1.2 hd ∧ VarAt wr (w.heap.size + 1) [sv0, .int .i64 m0] ∧ RdV Value.bool false (fun i => i < w.heap.size) wr sv0 (crashL ((las, lat), ls) (l.take j)).2 ∧ VarAt wr (w.heap.size + 1 + 1) [.slice none 0 0, .slice none 0 0, .slice none 0 0] ∧ VarAt wr (w.heap.size + 1 + 1 + 1) [.slice none 0 0, .int .i64 0] ∧ UpdS (fun i => i = w.heap.size ∨ i = w.heap.size + 1 ∨ w1.heap.size ≤ i) w1 wr) := HD1
    clear HD0 HD1
    by_cases hlt : j < l.length
    · have hlt' : (j : Int) < (l.length : Int) := by omega
      have hcw : UpdS (fun i => i = w.heap.size ∨ i = w.heap.size + 1 ∨ w1.heap.size ≤ i) w1 wr := HD.out.2.2.2.2.2
      obtain ⟨-, hlc, hcm⟩ := HO.out.1.rd.caps
      obtain ⟨b1, o1, rfl, hb1, hcell⟩ := HO.out.1.rd.addr (by omega)
      have hx0 := hcell j hlt
      have HB : Hid (w.heap.size + 4 ≤ b1) := hb1
      have hx : wr.cell? ⟨b1, o1 + j, none⟩ = some (natV (l.getD j 0)) := by
        have hlt1 : b1 < w1.heap.size := World.block_lt_of_cell? _ _ hx0
        rw [hcw.cell (p := ⟨b1, o1 + j, none⟩) hlt1 (by show ¬ (b1 = _ ∨ b1 = _ ∨ _ ≤ b1); omega)]; exact hx0
      have HX : Hid (j < l.length ∧ l.getD j 0 < (crashL ((las, lat), ls) (l.take j)).1.2.length ∧ l.getD j 0 < (crashL ((las, lat), ls) (l.take j)).1.1.length ∧ (crashL ((las, lat), ls) (l.take j)).1.1.length ≤ 1024) := by
        have h1 := crashL_len (l.take j) ((las, lat), ls)
        have h2 := HI.out _ (mem_getD hlt)
        have h3 := HLL.out
        refine ⟨hlt, ?_, ?_, ?_⟩
        · rw [h1.2]; exact h2
        · rw [h1.1]; show _ < las.length; omega
        · rw [h1.1]; exact h3.2
      have HLC : Hid ((crashL ((las, lat), ls) (l.take j)).1.2.length ≤ 1024) := by
        have h1 := crashL_len (l.take j) ((las, lat), ls)
        have h3 := HLL.out
        show (crashL ((las, lat), ls) (l.take j)).1.2.length ≤ 1024
        rw [h1.2]; show lat.length ≤ 1024; omega
      have HT : Hid (crashL ((las, lat), ls) (l.take (j + 1)) = stepC (crashL ((las, lat), ls) (l.take j)) (l.getD j 0)) := by
        show crashL ((las, lat), ls) (l.take (j + 1)) = _
        rw [take_snoc l 0 j hlt, crashL_snoc]
      have HJ : Hid (j < l.length ∧ gk = l.length - j) := ⟨hlt, hk⟩
      have DVr : Hid (DocVar wr w.heap.size (fun i => p i ∧ i ≠ w.heap.size ∧ i ≠ w.heap.size + 1 ∧ i ≠ w.heap.size + 1 + 1 ∧ i ≠ w.heap.size + 1 + 1 + 1) (crashL ((las, lat), ls) (l.take j)).1.1 (crashL ((las, lat), ls) (l.take j)).1.2 hd ∧ wr.cell? ⟨b1, o1 + j, none⟩ = some (natV (l.getD j 0)) ∧ w.heap.size + 4 ≤ wr.heap.size ∧ VarAt wr (w.heap.size + 1) [sv0, .int .i64 m0] ∧ RdV Value.bool false (fun i => i < w.heap.size) wr sv0 (crashL ((las, lat), ls) (l.take j)).2 ∧ VarAt wr (w.heap.size + 1 + 1) [.slice none 0 0, .slice none 0 0, .slice none 0 0] ∧ VarAt wr (w.heap.size + 1 + 1 + 1) [.slice none 0 0, .int .i64 0] ∧ UpdS (fun i => i = w.heap.size ∨ i = w.heap.size + 1 ∨ w1.heap.size ≤ i) w1 wr) :=
        ⟨HD.out.1, hx, by have h1 := HS0.out; have h2 := hcw.size; omega, HD.out.2.1, HD.out.2.2.1, HD.out.2.2.2.1, HD.out.2.2.2.2.1, hcw⟩
      unfold maxLen at hcm
      clear hlt hk hx0 hcell hx hcw hb1 HD
      generalize l.getD j 0 = x at HX HT DVr
      generalize crashL ((las, lat), ls) (l.take j) = C at HX HT DVr HLC
      obtain ⟨⟨C1, C2⟩, C3⟩ := C
      replace HX : Hid (j < l.length ∧ x < C2.length ∧ x < C1.length ∧ C1.length ≤ 1024) := HX
      replace HLC : Hid (C2.length ≤ 1024) := HLC
      have hc2l : (C2.length : Int) ≤ 1024 := by have := HLC.out; omega
      -- the next bit
      have hnx := rnext_any sv0 C3 m0 _ wr DVr.out.2.2.2.2.1 hm0 (by omega)
      have hmm : (min 1 C3.length : Nat) ≤ 1 := by omega
      obtain ⟨as1, cs1, hsv⟩ := RdV.shape DVr.out.2.2.2.2.1
      subst hsv
      have HT3 : Hid (crashL ((las, lat), ls) (l.take (j + 1)) = ((if C3.getD 0 false then C1.set x (C2.getD x []) else C1, C2.set x []), C3.drop 1)) := HT.out
      obtain ⟨⟨s0, s1⟩, -⟩ := VarAt.two DVr.out.2.2.2.1
      generalize (min 1 C3.length : Nat) = mm at hnx hmm
      obtain ⟨C4, hC4⟩ : ∃ C4, C3.drop 1 = C4 := ⟨_, rfl⟩
      rw [hC4] at HT3 hnx
      clear hC4
      have HM : Hid (0 ≤ m0 + (mm : Int) ∧ m0 + (mm : Int) ≤ ((j + 1 : Nat) : Int)) := ⟨by omega, by omega⟩
      generalize hgm : m0 + (mm : Int) = m at hnx HM
      clear hgm
      clear HT
      generalize hL3 : C3.length = L3 at hnx s0 DVr
      clear hL3
      go_wp2_with fail
      refine hnx.mono ?_
      rintro e w2 ⟨sv, rfl, hrs2, g2⟩
      obtain ⟨as2, cs2, hsv2⟩ := hrs2.shape
      obtain ⟨⟨s0', s1'⟩, e0, e1⟩ := VarAt.two (VarAt.grow DVr.out.2.2.2.1 (g2.alloc (.cells #[.slice as2 C4.length cs2, .int .i64 m] 68)))
      have HW4 : Hid (let W4 := (((w2.alloc (.cells #[.slice as2 C4.length cs2, .int .i64 m] 68)).setCell ⟨w.heap.size + 1, 0, none⟩ (.slice as2 C4.length cs2)).setCell ⟨w.heap.size + 1, 1, none⟩ (.int .i64 m))
          DocVar W4 w.heap.size (fun i => p i ∧ i ≠ w.heap.size ∧ i ≠ w.heap.size + 1 ∧ i ≠ w.heap.size + 1 + 1 ∧ i ≠ w.heap.size + 1 + 1 + 1) C1 C2 hd ∧ W4.cell? ⟨b1, o1 + j, none⟩ = some (natV x) ∧ w.heap.size + 4 ≤ W4.heap.size ∧ VarAt W4 (w.heap.size + 1) [.slice as2 C4.length cs2, .int .i64 m] ∧ RdV Value.bool false (fun i => i < w.heap.size) W4 (.slice as2 C4.length cs2) C4 ∧ VarAt W4 (w.heap.size + 1 + 1) [.slice none 0 0, .slice none 0 0, .slice none 0 0] ∧ VarAt W4 (w.heap.size + 1 + 1 + 1) [.slice none 0 0, .int .i64 0] ∧ UpdS (fun i => i = w.heap.size ∨ i = w.heap.size + 1 ∨ w1.heap.size ≤ i) w1 W4) := by
        have g3 : Grow wr (w2.alloc (.cells #[.slice as2 C4.length cs2, .int .i64 m] 68)) := g2.alloc _
        have hu := upd_pair (w2.alloc (.cells #[.slice as2 C4.length cs2, .int .i64 m] 68)) (w.heap.size + 1) (.slice as2 C4.length cs2) (.int .i64 m)
        have hB := HB.out
        have hcl := DVr.out.2.1
        have hbl := World.block_lt_of_cell? _ _ hcl
        have hsz := g3.size
        refine ⟨(DVr.out.1.grow g3).upd hu (by omega) (fun i _ hi e => hi.2.2.1 e), ?_, ?_, ?_, ?_, (DVr.out.2.2.2.2.2.1.grow g3).upd hu (by omega), (DVr.out.2.2.2.2.2.2.1.grow g3).upd hu (by omega), ?_⟩
        · rw [hu.cell (p := ⟨b1, o1 + j, none⟩) (Nat.lt_of_lt_of_le hbl hsz) (by show ¬ b1 = _; omega), Below.cell (p := ⟨b1, o1 + j, none⟩) g3 hbl]
          exact hcl
        · have h1 := DVr.out.2.2.1
          have h2 := hu.size
          omega
        · exact VarAt.set2 (VarAt.grow DVr.out.2.2.2.1 g3) _ _
        · rw [hsv2] at hrs2
          exact (hrs2.grow ((Grow.refl w2).alloc _)).upd hu (fun i _ hi => by omega)
        · exact (DVr.out.2.2.2.2.2.2.2.trans g3.s).trans (hu.mono (fun i hi => .inr (.inl hi)))
      subst hsv2
      clear hrs2 g2 DVr hnx s0 s1
      obtain ⟨y, hy⟩ : ∃ y, C3.getD 0 false = y := ⟨_, rfl⟩
      rw [hy] at HT3 ⊢
      cases y with
      | false =>
        have HT2 : Hid (crashL ((las, lat), ls) (l.take (j + 1)) = ((C1, C2.set x []), C4)) := HT3.out
        clear HT3 hy
        go_wp2
        generalize (((w2.alloc (.cells #[.slice as2 C4.length cs2, .int .i64 m] 68)).setCell ⟨w.heap.size + 1, 0, none⟩ (.slice as2 C4.length cs2)).setCell ⟨w.heap.size + 1, 1, none⟩ (.int .i64 m)) = w4 at HW4 ⊢
        have DV : Hid (DocVar w4 w.heap.size (fun i => p i ∧ i ≠ w.heap.size ∧ i ≠ w.heap.size + 1 ∧ i ≠ w.heap.size + 1 + 1 ∧ i ≠ w.heap.size + 1 + 1 + 1) C1 C2 hd ∧ w4.cell? ⟨b1, o1 + j, none⟩ = some (natV x) ∧ w.heap.size + 4 ≤ (w4).heap.size ∧ VarAt w4 (w.heap.size + 1) [(.slice as2 C4.length cs2), .int .i64 m] ∧ RdV Value.bool false (fun i => i < w.heap.size) w4 (.slice as2 C4.length cs2) C4 ∧ VarAt w4 (w.heap.size + 1 + 1) [.slice none 0 0, .slice none 0 0, .slice none 0 0] ∧ VarAt w4 (w.heap.size + 1 + 1 + 1) [.slice none 0 0, .int .i64 0] ∧ UpdS (fun i => i = w.heap.size ∨ i = w.heap.size + 1 ∨ w1.heap.size ≤ i) w1 w4) := HW4.out
        clear HW4 s0' s1' e0 e1
        obtain ⟨lv, tv, hv, hva, hdoc, hnb⟩ := DV.out.1
        obtain ⟨at2, ct, rfl, htc1, htc2⟩ := hdoc.2.1.shape
        unfold maxLen at htc2
        have k0 : ∀ w', Grow w4.drew w' → w'.cell? ⟨w.heap.size, 1, none⟩ = some (.slice at2 C2.length ct) ∧ w'.cell? ⟨b1, o1 + j, none⟩ = some (natV x) := fun w' g => by
          have gg : Grow w4 w' := (Grow.refl w4).drew.trans g
          obtain ⟨⟨x0, x1, x2⟩, -⟩ := (hva.grow gg).three
          exact ⟨x1, by rw [Below.cell (p := ⟨b1, o1 + j, none⟩) gg (World.block_lt_of_cell? _ _ DV.out.2.1)]; exact DV.out.2.1⟩
        have hwt := qwith_any (fun i => p i ∧ i ≠ w.heap.size ∧ i ≠ w.heap.size + 1 ∧ i ≠ w.heap.size + 1 + 1 ∧ i ≠ w.heap.size + 1 + 1 + 1) (.slice at2 C2.length ct) (.slice none 0 0) C2 [] x w4.drew (hdoc.2.1.grow (Grow.refl w4).drew) (RdV.nil _ _ _ _ _ _ (Nat.zero_le _)) HX.out.2.1 HLC.out (fun i hi => hq i (by have h1 := hva.lt; have h2 : w4.drew.heap.size = w4.heap.size := rfl; have h3 := DV.out.2.2.1; omega))
        have HDc : Hid (DocV (fun i => p i ∧ i ≠ w.heap.size ∧ i ≠ w.heap.size + 1 ∧ i ≠ w.heap.size + 1 + 1 ∧ i ≠ w.heap.size + 1 + 1 + 1) w4 lv (.slice at2 C2.length ct) hv C1 C2 hd ∧ VarAt w4 w.heap.size [lv, .slice at2 C2.length ct, hv]) := ⟨hdoc, hva⟩
        clear hva hdoc
        go_wp2
        refine wp_region_last 8 (by kernel_rfl) [(0, false), (1, false), (2, false), (3, false), (4, false), (5, false), (6, true), (7, false)] (by kernel_rfl) (by kernel_rfl) rfl (fun _ _ d _ _ h => by cases d <;> exact h) ?_
        simp only [inOrder, List.filterMap_cons, List.filterMap_nil, List.getElem?_toArray, List.getElem?_cons_zero, List.getElem?_cons_succ, Option.map_some]
        repeat (first
          | (refine wpS_move rfl ?_; simp only [Act.eval, Act.put, Array.getD_eq_getD_getElem?, List.getElem?_toArray, List.getElem?_cons_zero, List.getElem?_cons_succ, Option.getD_some, List.setIfInBounds_toArray, List.set_cons_zero, List.set_cons_succ])
          | (refine wpS_assign rfl ?_; simp only [Act.eval, Act.put, Array.getD_eq_getD_getElem?, List.getElem?_toArray, List.getElem?_cons_zero, List.getElem?_cons_succ, Option.getD_some, List.setIfInBounds_toArray, List.set_cons_zero, List.set_cons_succ])
          | (refine wpS_read (v := ?_) rfl ?_ ?_; rotate_left; (focus (intro w' hG; obtain ⟨q0, q1⟩ := k0 w' hG; go_simp; try (with_reducible rfl))); simp only [Act.put, List.setIfInBounds_toArray, List.set_cons_zero, List.set_cons_succ])
          | (refine wpS_skip rfl ?_; simp only [Act.put, List.setIfInBounds_toArray, List.set_cons_zero, List.set_cons_succ]))
        refine wpS_call (f := ?_) (args := ?_) (by rfl) ?_ ?_
        rotate_left 2; focus (go_simp; constructor <;> with_reducible rfl)
        refine (hwt).mono ?_
        rintro e w2 ⟨v2, rfl, hr2, g2⟩
        refine ⟨v2, rfl, g2, ?_⟩
        simp only [Act.put, List.setIfInBounds_toArray, List.set_cons_zero, List.set_cons_succ]
        repeat (first
          | (refine wpS_move rfl ?_; simp only [Act.eval, Act.put, Array.getD_eq_getD_getElem?, List.getElem?_toArray, List.getElem?_cons_zero, List.getElem?_cons_succ, Option.getD_some, List.setIfInBounds_toArray, List.set_cons_zero, List.set_cons_succ])
          | (refine wpS_assign rfl ?_; simp only [Act.eval, Act.put, Array.getD_eq_getD_getElem?, List.getElem?_toArray, List.getElem?_cons_zero, List.getElem?_cons_succ, Option.getD_some, List.setIfInBounds_toArray, List.set_cons_zero, List.set_cons_succ])
          | (refine wpS_read (v := ?_) rfl ?_ ?_; rotate_left; (focus (intro w' hG; skip; go_simp; try (with_reducible rfl))); simp only [Act.put, List.setIfInBounds_toArray, List.set_cons_zero, List.set_cons_succ])
          | (refine wpS_skip rfl ?_; simp only [Act.put, List.setIfInBounds_toArray, List.set_cons_zero, List.set_cons_succ]))
        refine wpS_nil ?_
        have g02 : Grow w4 w2 := (Grow.refl w4).drew.trans g2
        obtain ⟨a4, c4, rfl, -⟩ := hr2.shape
        obtain ⟨⟨x0, x1, x2⟩, f0, f1, f2⟩ := (HDc.out.2.grow g02).three
        have DV5 : Hid (DocVar (w2.setCell ⟨w.heap.size, 1, none⟩ (.slice a4 (C2.set x []).length c4)) w.heap.size (fun i => p i ∧ i ≠ w.heap.size ∧ i ≠ w.heap.size + 1 ∧ i ≠ w.heap.size + 1 + 1 ∧ i ≠ w.heap.size + 1 + 1 + 1) C1 (C2.set x []) hd ∧ w.heap.size + 4 ≤ ((w2.setCell ⟨w.heap.size, 1, none⟩ (.slice a4 (C2.set x []).length c4))).heap.size ∧ VarAt (w2.setCell ⟨w.heap.size, 1, none⟩ (.slice a4 (C2.set x []).length c4)) (w.heap.size + 1) [(.slice as2 C4.length cs2), .int .i64 m] ∧ RdV Value.bool false (fun i => i < w.heap.size) (w2.setCell ⟨w.heap.size, 1, none⟩ (.slice a4 (C2.set x []).length c4)) (.slice as2 C4.length cs2) C4 ∧ VarAt (w2.setCell ⟨w.heap.size, 1, none⟩ (.slice a4 (C2.set x []).length c4)) (w.heap.size + 1 + 1) [.slice none 0 0, .slice none 0 0, .slice none 0 0] ∧ VarAt (w2.setCell ⟨w.heap.size, 1, none⟩ (.slice a4 (C2.set x []).length c4)) (w.heap.size + 1 + 1 + 1) [.slice none 0 0, .int .i64 0] ∧ UpdS (fun i => i = w.heap.size ∨ i = w.heap.size + 1 ∨ w1.heap.size ≤ i) w1 (w2.setCell ⟨w.heap.size, 1, none⟩ (.slice a4 (C2.set x []).length c4))) := by
          have hu := upd_one w2 w.heap.size 1 (.slice a4 (C2.set x []).length c4)
          refine ⟨⟨_, _, _, (HDc.out.2.grow g02).set 1 _, DocV.upd (S := fun k => k = w.heap.size) ⟨HDc.out.1.1.grow g02, hr2, HDc.out.1.2.2.grow g02⟩ hu (fun i _ hi e => hi.2.1 e), hnb⟩, ?_⟩
          exact ⟨by have h1 := DV.out.2.2.1; have h2 := g02.size; simp; omega, (DV.out.2.2.2.1.grow g02).upd hu (by omega), (DV.out.2.2.2.2.1.grow g02).upd hu (fun i _ hi => by omega), (DV.out.2.2.2.2.2.1.grow g02).upd hu (by omega), (DV.out.2.2.2.2.2.2.1.grow g02).upd hu (by omega), (DV.out.2.2.2.2.2.2.2.trans (g02.s)).trans (hu.mono (fun i hi => .inl hi))⟩
        generalize (C2.set x []).length = L4 at DV5
        refine last_store (w' := w2.setCell ⟨w.heap.size, 1, none⟩ (.slice a4 L4 c4)) rfl rfl (by go_simp) ?_
        simp only [Act.put, List.setIfInBounds_toArray, List.set_cons_zero, List.set_cons_succ]
        clear x0 x1 x2 f0 f1 f2 hr2 g2 g02 hwt k0 HDc
        generalize w2.setCell ⟨w.heap.size, 1, none⟩ (.slice a4 L4 c4) = w6 at DV5 ⊢
        go_wp2
        go_roundg (l.length - (j + 1))
        case measure => have := HJ.out; omega
        case rel =>
          refine ⟨j + 1, rfl, HJ.out.1, by go_num, .slice as2 C4.length cs2, m, HM.out.1, HM.out.2, ?_⟩
          rw [HT2.out]
          exact ⟨DV5.out.1, DV5.out.2.2⟩
      | true =>
        have HT2 : Hid (crashL ((las, lat), ls) (l.take (j + 1)) = ((C1.set x (C2.getD x []), C2.set x []), C4)) := HT3.out
        clear HT3 hy
        go_wp2
        generalize (((w2.alloc (.cells #[.slice as2 C4.length cs2, .int .i64 m] 68)).setCell ⟨w.heap.size + 1, 0, none⟩ (.slice as2 C4.length cs2)).setCell ⟨w.heap.size + 1, 1, none⟩ (.int .i64 m)) = w4 at HW4 ⊢
        have DV : Hid (DocVar w4 w.heap.size (fun i => p i ∧ i ≠ w.heap.size ∧ i ≠ w.heap.size + 1 ∧ i ≠ w.heap.size + 1 + 1 ∧ i ≠ w.heap.size + 1 + 1 + 1) C1 C2 hd ∧ w4.cell? ⟨b1, o1 + j, none⟩ = some (natV x) ∧ w.heap.size + 4 ≤ (w4).heap.size ∧ VarAt w4 (w.heap.size + 1) [(.slice as2 C4.length cs2), .int .i64 m] ∧ RdV Value.bool false (fun i => i < w.heap.size) w4 (.slice as2 C4.length cs2) C4 ∧ VarAt w4 (w.heap.size + 1 + 1) [.slice none 0 0, .slice none 0 0, .slice none 0 0] ∧ VarAt w4 (w.heap.size + 1 + 1 + 1) [.slice none 0 0, .int .i64 0] ∧ UpdS (fun i => i = w.heap.size ∨ i = w.heap.size + 1 ∨ w1.heap.size ≤ i) w1 w4) := HW4.out
        clear HW4 s0' s1' e0 e1
        obtain ⟨lv, tv, hv, hva, hdoc, hnb⟩ := DV.out.1
        obtain ⟨al, cl, rfl, hlc1, hlc2⟩ := hdoc.1.shape
        obtain ⟨at2, ct, rfl, htc1, htc2⟩ := hdoc.2.1.shape
        obtain ⟨b2, o2, ai, ci, rfl, hb2, hc2, hr2⟩ := hdoc.2.1.at HX.out.2.1
        unfold maxLen at hlc2 htc2
        have k0 : ∀ w', Grow w4.drew w' → w'.cell? ⟨w.heap.size, 0, none⟩ = some (.slice al C1.length cl) ∧ w'.cell? ⟨w.heap.size, 1, none⟩ = some (.slice (some ⟨b2, o2, none⟩) C2.length ct) ∧ w'.cell? ⟨b1, o1 + j, none⟩ = some (natV x) ∧ w'.cell? ⟨b2, o2 + x, none⟩ = some (.slice ai (C2.getD x []).length ci) := fun w' g => by
          have gg : Grow w4 w' := (Grow.refl w4).drew.trans g
          obtain ⟨⟨x0, x1, x2⟩, -⟩ := (hva.grow gg).three
          exact ⟨x0, x1, by rw [Below.cell (p := ⟨b1, o1 + j, none⟩) gg (World.block_lt_of_cell? _ _ DV.out.2.1)]; exact DV.out.2.1, by rw [Below.cell (p := ⟨b2, o2 + x, none⟩) gg hb2]; exact hc2⟩
        have hxi : (x : Int) < (C2.length : Int) := by have := HX.out.2.1; omega
        have hwt := qwith_any (fun i => p i ∧ i ≠ w.heap.size ∧ i ≠ w.heap.size + 1 ∧ i ≠ w.heap.size + 1 + 1 ∧ i ≠ w.heap.size + 1 + 1 + 1) (.slice al C1.length cl) (.slice ai (C2.getD x []).length ci) C1 (C2.getD x []) x w4.drew (hdoc.1.grow (Grow.refl w4).drew) (hr2.grow (Grow.refl w4).drew) HX.out.2.2.1 HX.out.2.2.2 (fun i hi => hq i (by have h1 := hva.lt; have h2 : w4.drew.heap.size = w4.heap.size := rfl; have h3 := DV.out.2.2.1; omega))
        have hrl := hr2.len
        unfold maxLen at hrl
        have HDc : Hid (DocV (fun i => p i ∧ i ≠ w.heap.size ∧ i ≠ w.heap.size + 1 ∧ i ≠ w.heap.size + 1 + 1 ∧ i ≠ w.heap.size + 1 + 1 + 1) w4 (.slice al C1.length cl) (.slice (some ⟨b2, o2, none⟩) C2.length ct) hv C1 C2 hd ∧ VarAt w4 w.heap.size [.slice al C1.length cl, .slice (some ⟨b2, o2, none⟩) C2.length ct, hv]) := ⟨hdoc, hva⟩
        generalize (C2.getD x []).length = LR at k0 hwt hrl
        clear hva hdoc hc2 hr2
        go_wp2
        refine wp_region_last 16 (by kernel_rfl) [(0, false), (1, false), (2, false), (3, false), (4, false), (5, false), (6, false), (7, false), (8, false), (9, false), (10, false), (11, false), (12, false), (13, false), (14, true), (15, false)] (by kernel_rfl) (by kernel_rfl) rfl (fun _ _ d _ _ h => by cases d <;> exact h) ?_
        simp only [inOrder, List.filterMap_cons, List.filterMap_nil, List.getElem?_toArray, List.getElem?_cons_zero, List.getElem?_cons_succ, Option.map_some]
        repeat (first
          | (refine wpS_move rfl ?_; simp only [Act.eval, Act.put, Array.getD_eq_getD_getElem?, List.getElem?_toArray, List.getElem?_cons_zero, List.getElem?_cons_succ, Option.getD_some, List.setIfInBounds_toArray, List.set_cons_zero, List.set_cons_succ])
          | (refine wpS_assign rfl ?_; simp only [Act.eval, Act.put, Array.getD_eq_getD_getElem?, List.getElem?_toArray, List.getElem?_cons_zero, List.getElem?_cons_succ, Option.getD_some, List.setIfInBounds_toArray, List.set_cons_zero, List.set_cons_succ])
          | (refine wpS_read (v := ?_) rfl ?_ ?_; rotate_left; (focus (intro w' hG; obtain ⟨q0, q1, q2, q3⟩ := k0 w' hG; go_simp; try (with_reducible rfl))); simp only [Act.put, List.setIfInBounds_toArray, List.set_cons_zero, List.set_cons_succ])
          | (refine wpS_skip rfl ?_; simp only [Act.put, List.setIfInBounds_toArray, List.set_cons_zero, List.set_cons_succ]))
        refine wpS_call (f := ?_) (args := ?_) (by rfl) ?_ ?_
        rotate_left 2; focus (go_simp; constructor <;> with_reducible rfl)
        refine (hwt).mono ?_
        rintro e w2 ⟨v2, rfl, hr2, g2⟩
        refine ⟨v2, rfl, g2, ?_⟩
        simp only [Act.put, List.setIfInBounds_toArray, List.set_cons_zero, List.set_cons_succ]
        repeat (first
          | (refine wpS_move rfl ?_; simp only [Act.eval, Act.put, Array.getD_eq_getD_getElem?, List.getElem?_toArray, List.getElem?_cons_zero, List.getElem?_cons_succ, Option.getD_some, List.setIfInBounds_toArray, List.set_cons_zero, List.set_cons_succ])
          | (refine wpS_assign rfl ?_; simp only [Act.eval, Act.put, Array.getD_eq_getD_getElem?, List.getElem?_toArray, List.getElem?_cons_zero, List.getElem?_cons_succ, Option.getD_some, List.setIfInBounds_toArray, List.set_cons_zero, List.set_cons_succ])
          | (refine wpS_read (v := ?_) rfl ?_ ?_; rotate_left; (focus (intro w' hG; skip; go_simp; try (with_reducible rfl))); simp only [Act.put, List.setIfInBounds_toArray, List.set_cons_zero, List.set_cons_succ])
          | (refine wpS_skip rfl ?_; simp only [Act.put, List.setIfInBounds_toArray, List.set_cons_zero, List.set_cons_succ]))
        refine wpS_nil ?_
        have g02 : Grow w4 w2 := (Grow.refl w4).drew.trans g2
        obtain ⟨a4, c4, rfl, -⟩ := hr2.shape
        obtain ⟨⟨x0, x1, x2⟩, f0, f1, f2⟩ := (HDc.out.2.grow g02).three
        have DV3 : Hid (DocVar (w2.setCell ⟨w.heap.size, 0, none⟩ (.slice a4 (C1.set x (C2.getD x [])).length c4)) w.heap.size (fun i => p i ∧ i ≠ w.heap.size ∧ i ≠ w.heap.size + 1 ∧ i ≠ w.heap.size + 1 + 1 ∧ i ≠ w.heap.size + 1 + 1 + 1) (C1.set x (C2.getD x [])) C2 hd ∧ (w2.setCell ⟨w.heap.size, 0, none⟩ (.slice a4 (C1.set x (C2.getD x [])).length c4)).cell? ⟨b1, o1 + j, none⟩ = some (natV x) ∧ w.heap.size + 4 ≤ ((w2.setCell ⟨w.heap.size, 0, none⟩ (.slice a4 (C1.set x (C2.getD x [])).length c4))).heap.size ∧ VarAt (w2.setCell ⟨w.heap.size, 0, none⟩ (.slice a4 (C1.set x (C2.getD x [])).length c4)) (w.heap.size + 1) [(.slice as2 C4.length cs2), .int .i64 m] ∧ RdV Value.bool false (fun i => i < w.heap.size) (w2.setCell ⟨w.heap.size, 0, none⟩ (.slice a4 (C1.set x (C2.getD x [])).length c4)) (.slice as2 C4.length cs2) C4 ∧ VarAt (w2.setCell ⟨w.heap.size, 0, none⟩ (.slice a4 (C1.set x (C2.getD x [])).length c4)) (w.heap.size + 1 + 1) [.slice none 0 0, .slice none 0 0, .slice none 0 0] ∧ VarAt (w2.setCell ⟨w.heap.size, 0, none⟩ (.slice a4 (C1.set x (C2.getD x [])).length c4)) (w.heap.size + 1 + 1 + 1) [.slice none 0 0, .int .i64 0] ∧ UpdS (fun i => i = w.heap.size ∨ i = w.heap.size + 1 ∨ w1.heap.size ≤ i) w1 (w2.setCell ⟨w.heap.size, 0, none⟩ (.slice a4 (C1.set x (C2.getD x [])).length c4))) := by
          have hu := upd_one w2 w.heap.size 0 (.slice a4 (C1.set x (C2.getD x [])).length c4)
          refine ⟨⟨_, _, _, (HDc.out.2.grow g02).set 0 _, DocV.upd (S := fun k => k = w.heap.size) ⟨hr2, HDc.out.1.2.1.grow g02, HDc.out.1.2.2.grow g02⟩ hu (fun i _ hi e => hi.2.1 e), hnb⟩, ?_, ?_⟩
          · have hb := HB.out
            rw [hu.cell (p := ⟨b1, o1 + j, none⟩) (Nat.lt_of_lt_of_le (World.block_lt_of_cell? _ _ DV.out.2.1) g02.size) (by show ¬ b1 = _; omega), Below.cell (p := ⟨b1, o1 + j, none⟩) g02 (World.block_lt_of_cell? _ _ DV.out.2.1)]
            exact DV.out.2.1
          · exact ⟨by have h1 := DV.out.2.2.1; have h2 := g02.size; simp; omega, (DV.out.2.2.2.1.grow g02).upd hu (by omega), (DV.out.2.2.2.2.1.grow g02).upd hu (fun i _ hi => by omega), (DV.out.2.2.2.2.2.1.grow g02).upd hu (by omega), (DV.out.2.2.2.2.2.2.1.grow g02).upd hu (by omega), (DV.out.2.2.2.2.2.2.2.trans (g02.s)).trans (hu.mono (fun i hi => .inl hi))⟩
        generalize (C1.set x (C2.getD x [])).length = L4 at DV3
        refine last_store (w' := w2.setCell ⟨w.heap.size, 0, none⟩ (.slice a4 L4 c4)) rfl rfl (by go_simp) ?_
        simp only [Act.put, List.setIfInBounds_toArray, List.set_cons_zero, List.set_cons_succ]
        clear x0 x1 x2 f0 f1 f2 hr2 g2 g02 hwt k0 HDc hxi
        generalize w2.setCell ⟨w.heap.size, 0, none⟩ (.slice a4 L4 c4) = w5 at DV3 ⊢
        clear DV
        obtain ⟨lv, tv, hv, hva, hdoc, hnb⟩ := DV3.out.1
        obtain ⟨at2, ct, rfl, htc1, htc2⟩ := hdoc.2.1.shape
        unfold maxLen at htc2
        have k0 : ∀ w', Grow w5.drew w' → w'.cell? ⟨w.heap.size, 1, none⟩ = some (.slice at2 C2.length ct) ∧ w'.cell? ⟨b1, o1 + j, none⟩ = some (natV x) := fun w' g => by
          have gg : Grow w5 w' := (Grow.refl w5).drew.trans g
          obtain ⟨⟨x0, x1, x2⟩, -⟩ := (hva.grow gg).three
          exact ⟨x1, by rw [Below.cell (p := ⟨b1, o1 + j, none⟩) gg (World.block_lt_of_cell? _ _ DV3.out.2.1)]; exact DV3.out.2.1⟩
        have hwt := qwith_any (fun i => p i ∧ i ≠ w.heap.size ∧ i ≠ w.heap.size + 1 ∧ i ≠ w.heap.size + 1 + 1 ∧ i ≠ w.heap.size + 1 + 1 + 1) (.slice at2 C2.length ct) (.slice none 0 0) C2 [] x w5.drew (hdoc.2.1.grow (Grow.refl w5).drew) (RdV.nil _ _ _ _ _ _ (Nat.zero_le _)) HX.out.2.1 HLC.out (fun i hi => hq i (by have h1 := hva.lt; have h2 : w5.drew.heap.size = w5.heap.size := rfl; have h3 := DV3.out.2.2.1; omega))
        have HDc : Hid (DocV (fun i => p i ∧ i ≠ w.heap.size ∧ i ≠ w.heap.size + 1 ∧ i ≠ w.heap.size + 1 + 1 ∧ i ≠ w.heap.size + 1 + 1 + 1) w5 lv (.slice at2 C2.length ct) hv (C1.set x (C2.getD x [])) C2 hd ∧ VarAt w5 w.heap.size [lv, .slice at2 C2.length ct, hv]) := ⟨hdoc, hva⟩
        clear hva hdoc
        go_wp2
        refine wp_region_last 8 (by kernel_rfl) [(0, false), (1, false), (2, false), (3, false), (4, false), (5, false), (6, true), (7, false)] (by kernel_rfl) (by kernel_rfl) rfl (fun _ _ d _ _ h => by cases d <;> exact h) ?_
        simp only [inOrder, List.filterMap_cons, List.filterMap_nil, List.getElem?_toArray, List.getElem?_cons_zero, List.getElem?_cons_succ, Option.map_some]
        repeat (first
          | (refine wpS_move rfl ?_; simp only [Act.eval, Act.put, Array.getD_eq_getD_getElem?, List.getElem?_toArray, List.getElem?_cons_zero, List.getElem?_cons_succ, Option.getD_some, List.setIfInBounds_toArray, List.set_cons_zero, List.set_cons_succ])
          | (refine wpS_assign rfl ?_; simp only [Act.eval, Act.put, Array.getD_eq_getD_getElem?, List.getElem?_toArray, List.getElem?_cons_zero, List.getElem?_cons_succ, Option.getD_some, List.setIfInBounds_toArray, List.set_cons_zero, List.set_cons_succ])
          | (refine wpS_read (v := ?_) rfl ?_ ?_; rotate_left; (focus (intro w' hG; obtain ⟨q0, q1⟩ := k0 w' hG; go_simp; try (with_reducible rfl))); simp only [Act.put, List.setIfInBounds_toArray, List.set_cons_zero, List.set_cons_succ])
          | (refine wpS_skip rfl ?_; simp only [Act.put, List.setIfInBounds_toArray, List.set_cons_zero, List.set_cons_succ]))
        refine wpS_call (f := ?_) (args := ?_) (by rfl) ?_ ?_
        rotate_left 2; focus (go_simp; constructor <;> with_reducible rfl)
        refine (hwt).mono ?_
        rintro e w2 ⟨v2, rfl, hr2, g2⟩
        refine ⟨v2, rfl, g2, ?_⟩
        simp only [Act.put, List.setIfInBounds_toArray, List.set_cons_zero, List.set_cons_succ]
        repeat (first
          | (refine wpS_move rfl ?_; simp only [Act.eval, Act.put, Array.getD_eq_getD_getElem?, List.getElem?_toArray, List.getElem?_cons_zero, List.getElem?_cons_succ, Option.getD_some, List.setIfInBounds_toArray, List.set_cons_zero, List.set_cons_succ])
          | (refine wpS_assign rfl ?_; simp only [Act.eval, Act.put, Array.getD_eq_getD_getElem?, List.getElem?_toArray, List.getElem?_cons_zero, List.getElem?_cons_succ, Option.getD_some, List.setIfInBounds_toArray, List.set_cons_zero, List.set_cons_succ])
          | (refine wpS_read (v := ?_) rfl ?_ ?_; rotate_left; (focus (intro w' hG; skip; go_simp; try (with_reducible rfl))); simp only [Act.put, List.setIfInBounds_toArray, List.set_cons_zero, List.set_cons_succ])
          | (refine wpS_skip rfl ?_; simp only [Act.put, List.setIfInBounds_toArray, List.set_cons_zero, List.set_cons_succ]))
        refine wpS_nil ?_
        have g02 : Grow w5 w2 := (Grow.refl w5).drew.trans g2
        obtain ⟨a4, c4, rfl, -⟩ := hr2.shape
        obtain ⟨⟨x0, x1, x2⟩, f0, f1, f2⟩ := (HDc.out.2.grow g02).three
        have DV5 : Hid (DocVar (w2.setCell ⟨w.heap.size, 1, none⟩ (.slice a4 (C2.set x []).length c4)) w.heap.size (fun i => p i ∧ i ≠ w.heap.size ∧ i ≠ w.heap.size + 1 ∧ i ≠ w.heap.size + 1 + 1 ∧ i ≠ w.heap.size + 1 + 1 + 1) (C1.set x (C2.getD x [])) (C2.set x []) hd ∧ w.heap.size + 4 ≤ ((w2.setCell ⟨w.heap.size, 1, none⟩ (.slice a4 (C2.set x []).length c4))).heap.size ∧ VarAt (w2.setCell ⟨w.heap.size, 1, none⟩ (.slice a4 (C2.set x []).length c4)) (w.heap.size + 1) [(.slice as2 C4.length cs2), .int .i64 m] ∧ RdV Value.bool false (fun i => i < w.heap.size) (w2.setCell ⟨w.heap.size, 1, none⟩ (.slice a4 (C2.set x []).length c4)) (.slice as2 C4.length cs2) C4 ∧ VarAt (w2.setCell ⟨w.heap.size, 1, none⟩ (.slice a4 (C2.set x []).length c4)) (w.heap.size + 1 + 1) [.slice none 0 0, .slice none 0 0, .slice none 0 0] ∧ VarAt (w2.setCell ⟨w.heap.size, 1, none⟩ (.slice a4 (C2.set x []).length c4)) (w.heap.size + 1 + 1 + 1) [.slice none 0 0, .int .i64 0] ∧ UpdS (fun i => i = w.heap.size ∨ i = w.heap.size + 1 ∨ w1.heap.size ≤ i) w1 (w2.setCell ⟨w.heap.size, 1, none⟩ (.slice a4 (C2.set x []).length c4))) := by
          have hu := upd_one w2 w.heap.size 1 (.slice a4 (C2.set x []).length c4)
          refine ⟨⟨_, _, _, (HDc.out.2.grow g02).set 1 _, DocV.upd (S := fun k => k = w.heap.size) ⟨HDc.out.1.1.grow g02, hr2, HDc.out.1.2.2.grow g02⟩ hu (fun i _ hi e => hi.2.1 e), hnb⟩, ?_⟩
          exact ⟨by have h1 := DV3.out.2.2.1; have h2 := g02.size; simp; omega, (DV3.out.2.2.2.1.grow g02).upd hu (by omega), (DV3.out.2.2.2.2.1.grow g02).upd hu (fun i _ hi => by omega), (DV3.out.2.2.2.2.2.1.grow g02).upd hu (by omega), (DV3.out.2.2.2.2.2.2.1.grow g02).upd hu (by omega), (DV3.out.2.2.2.2.2.2.2.trans (g02.s)).trans (hu.mono (fun i hi => .inl hi))⟩
        generalize (C2.set x []).length = L4 at DV5
        refine last_store (w' := w2.setCell ⟨w.heap.size, 1, none⟩ (.slice a4 L4 c4)) rfl rfl (by go_simp) ?_
        simp only [Act.put, List.setIfInBounds_toArray, List.set_cons_zero, List.set_cons_succ]
        clear x0 x1 x2 f0 f1 f2 hr2 g2 g02 hwt k0 HDc
        generalize w2.setCell ⟨w.heap.size, 1, none⟩ (.slice a4 L4 c4) = w6 at DV5 ⊢
        go_wp2
        go_roundg (l.length - (j + 1))
        case measure => have := HJ.out; omega
        case rel =>
          refine ⟨j + 1, rfl, HJ.out.1, by go_num, .slice as2 C4.length cs2, m, HM.out.1, HM.out.2, ?_⟩
          rw [HT2.out]
          exact ⟨DV5.out.1, DV5.out.2.2⟩
    · obtain rfl : j = l.length := by omega
      rw [List.take_length] at HD
      obtain ⟨⟨lv, tv, hv, hva, hdoc, hnb⟩, hvs, hrs, hvr, hvq, hu⟩ := HD.out
      obtain ⟨al, cl, rfl, -⟩ := hdoc.1.shape
      obtain ⟨at2, ct, rfl, -⟩ := hdoc.2.1.shape
      obtain ⟨ah, ch, rfl⟩ := hdoc.2.2.shape
      obtain ⟨as9, cs9, hsv⟩ := hrs.shape
      subst hsv
      generalize (crashL ((las, lat), ls) l).1.1.length = L1 at hva hdoc
      generalize (crashL ((las, lat), ls) l).1.2.length = L2 at hva hdoc
      generalize (crashL ((las, lat), ls) l).2.length = L9 at hvs hrs
      have gu : ∀ w', UpdS (fun i => i = w.heap.size + 1 + 1 ∨ i = w.heap.size + 1 + 1 + 1) wr.drew w' → VarAt w' w.heap.size [(.slice al L1 cl), (.slice at2 L2 ct), (.slice ah hd.length ch)] ∧ VarAt w' (w.heap.size + 1) [.slice as9 L9 cs9, .int .i64 m0] := fun w' g =>
        ⟨(hva.grow (Grow.refl wr).drew).upd g (by omega), (hvs.grow (Grow.refl wr).drew).upd g (by omega)⟩
      obtain ⟨⟨y0, y1, y2⟩, f0, f1, f2⟩ := (hvr.grow (Grow.refl wr).drew).three
      have hu3 := upd_three wr.drew (w.heap.size + 1 + 1) (.slice al L1 cl) (.slice at2 L2 ct) (.slice ah hd.length ch)
      obtain ⟨⟨z0, z1⟩, f3, f4⟩ := ((hvq.grow (Grow.refl wr).drew).upd hu3 (by omega)).two
      have hu2 := upd_pair (((wr.drew.setCell ⟨w.heap.size + 1 + 1, 0, none⟩ (.slice al L1 cl)).setCell ⟨w.heap.size + 1 + 1, 1, none⟩ (.slice at2 L2 ct)).setCell ⟨w.heap.size + 1 + 1, 2, none⟩ (.slice ah hd.length ch)) (w.heap.size + 1 + 1 + 1) (.slice as9 L9 cs9) (.int .i64 m0)
      have HF : Hid (VarAt (((((wr.drew.setCell ⟨w.heap.size + 1 + 1, 0, none⟩ (.slice al L1 cl)).setCell ⟨w.heap.size + 1 + 1, 1, none⟩ (.slice at2 L2 ct)).setCell ⟨w.heap.size + 1 + 1, 2, none⟩ (.slice ah hd.length ch)).setCell ⟨w.heap.size + 1 + 1 + 1, 0, none⟩ (.slice as9 L9 cs9)).setCell ⟨w.heap.size + 1 + 1 + 1, 1, none⟩ (.int .i64 m0)) (w.heap.size + 1 + 1) [(.slice al L1 cl), (.slice at2 L2 ct), (.slice ah hd.length ch)] ∧ VarAt (((((wr.drew.setCell ⟨w.heap.size + 1 + 1, 0, none⟩ (.slice al L1 cl)).setCell ⟨w.heap.size + 1 + 1, 1, none⟩ (.slice at2 L2 ct)).setCell ⟨w.heap.size + 1 + 1, 2, none⟩ (.slice ah hd.length ch)).setCell ⟨w.heap.size + 1 + 1 + 1, 0, none⟩ (.slice as9 L9 cs9)).setCell ⟨w.heap.size + 1 + 1 + 1, 1, none⟩ (.int .i64 m0)) (w.heap.size + 1 + 1 + 1) [.slice as9 L9 cs9, .int .i64 m0] ∧ DocV p (((((wr.drew.setCell ⟨w.heap.size + 1 + 1, 0, none⟩ (.slice al L1 cl)).setCell ⟨w.heap.size + 1 + 1, 1, none⟩ (.slice at2 L2 ct)).setCell ⟨w.heap.size + 1 + 1, 2, none⟩ (.slice ah hd.length ch)).setCell ⟨w.heap.size + 1 + 1 + 1, 0, none⟩ (.slice as9 L9 cs9)).setCell ⟨w.heap.size + 1 + 1 + 1, 1, none⟩ (.int .i64 m0)) (.slice al L1 cl) (.slice at2 L2 ct) (.slice ah hd.length ch) (crashL ((las, lat), ls) l).1.1 (crashL ((las, lat), ls) l).1.2 hd ∧ RdV Value.bool false (fun i => i < w.heap.size) (((((wr.drew.setCell ⟨w.heap.size + 1 + 1, 0, none⟩ (.slice al L1 cl)).setCell ⟨w.heap.size + 1 + 1, 1, none⟩ (.slice at2 L2 ct)).setCell ⟨w.heap.size + 1 + 1, 2, none⟩ (.slice ah hd.length ch)).setCell ⟨w.heap.size + 1 + 1 + 1, 0, none⟩ (.slice as9 L9 cs9)).setCell ⟨w.heap.size + 1 + 1 + 1, 1, none⟩ (.int .i64 m0)) (.slice as9 L9 cs9) (crashL ((las, lat), ls) l).2 ∧ Grow w (((((wr.drew.setCell ⟨w.heap.size + 1 + 1, 0, none⟩ (.slice al L1 cl)).setCell ⟨w.heap.size + 1 + 1, 1, none⟩ (.slice at2 L2 ct)).setCell ⟨w.heap.size + 1 + 1, 2, none⟩ (.slice ah hd.length ch)).setCell ⟨w.heap.size + 1 + 1 + 1, 0, none⟩ (.slice as9 L9 cs9)).setCell ⟨w.heap.size + 1 + 1 + 1, 1, none⟩ (.int .i64 m0))) := by
        have gd : Grow wr wr.drew := (Grow.refl wr).drew
        have v1 := (((hvr.grow gd).set 0 (.slice al L1 cl)).set 1 (.slice at2 L2 ct)).set 2 (.slice ah hd.length ch)
        refine ⟨VarAt.upd v1 hu2 (by omega), VarAt.set2 ((hvq.grow gd).upd hu3 (by omega)) _ _, (((hdoc.grow gd).upd hu3 (fun i _ hi e => hi.2.2.2.1 e)).upd hu2 (fun i _ hi e => hi.2.2.2.2 e)).mono (fun i _ hi => hi.1), ((hrs.grow gd).upd hu3 (fun i _ hi => by omega)).upd hu2 (fun i _ hi => by omega), ?_⟩
        have g1 : Grow w wr := UpdS.new HO.out.2 hu (fun i hi => by have := HO.out.2.size; omega)
        exact UpdS.new (UpdS.new (g1.trans gd) hu3 (fun i hi => by omega)) hu2 (fun i hi => by omega)
      clear hva hdoc hnb hvr hu hlt hk hvs hrs hvq HD hm0 hm1
      go_wp2
      refine wp_region_schedG (UpdS (fun i => i = w.heap.size + 1 + 1 ∨ i = w.heap.size + 1 + 1 + 1)) (UpdS.refl _) (fun _ _ _ => UpdS.trans) (by kernel_rfl) [(0, false), (1, false), (2, true), (3, true)] (by kernel_rfl) (by kernel_rfl) rfl (fun _ _ d _ _ h => by cases d <;> exact h) ?_
      simp only [inOrder, List.filterMap_cons, List.filterMap_nil, List.getElem?_toArray, List.getElem?_cons_zero, List.getElem?_cons_succ, Option.map_some]
      repeat (first
        | (refine wpS_move rfl ?_; simp only [Act.eval, Act.put, Array.getD_eq_getD_getElem?, List.getElem?_toArray, List.getElem?_cons_zero, List.getElem?_cons_succ, Option.getD_some, List.setIfInBounds_toArray, List.set_cons_zero, List.set_cons_succ])
        | (refine wpS_assign rfl ?_; simp only [Act.eval, Act.put, Array.getD_eq_getD_getElem?, List.getElem?_toArray, List.getElem?_cons_zero, List.getElem?_cons_succ, Option.getD_some, List.setIfInBounds_toArray, List.set_cons_zero, List.set_cons_succ])
        | (refine wpS_read (v := ?_) rfl ?_ ?_; rotate_left; (focus (intro w' hG; obtain ⟨⟨⟨q0, q1, q2⟩, -⟩, ⟨⟨q3, q4⟩, -⟩⟩ : (_ ∧ _) ∧ (_ ∧ _) := ⟨(gu w' hG).1.three, (gu w' hG).2.two⟩; go_simp; try (with_reducible rfl))); simp only [Act.put, List.setIfInBounds_toArray, List.set_cons_zero, List.set_cons_succ])
        | (refine wpS_skip rfl ?_; simp only [Act.put, List.setIfInBounds_toArray, List.set_cons_zero, List.set_cons_succ]))
      clear gu
      generalize wr.drew = wd at y0 y1 y2 f0 f1 f2 z0 z1 f3 f4 hu3 hu2 HF ⊢
      refine wpS_store (w' := (((wd.setCell ⟨w.heap.size + 1 + 1, 0, none⟩ (.slice al L1 cl)).setCell ⟨w.heap.size + 1 + 1, 1, none⟩ (.slice at2 L2 ct)).setCell ⟨w.heap.size + 1 + 1, 2, none⟩ (.slice ah hd.length ch))) rfl (by go_simp) (hu3.mono (fun i hi => .inl hi)) ?_
      simp only [Act.put, List.setIfInBounds_toArray, List.set_cons_zero, List.set_cons_succ]
      refine wpS_store (w' := (((((wd.setCell ⟨w.heap.size + 1 + 1, 0, none⟩ (.slice al L1 cl)).setCell ⟨w.heap.size + 1 + 1, 1, none⟩ (.slice at2 L2 ct)).setCell ⟨w.heap.size + 1 + 1, 2, none⟩ (.slice ah hd.length ch)).setCell ⟨w.heap.size + 1 + 1 + 1, 0, none⟩ (.slice as9 L9 cs9)).setCell ⟨w.heap.size + 1 + 1 + 1, 1, none⟩ (.int .i64 m0))) rfl (by go_simp) (hu2.mono (fun i hi => .inr hi)) ?_
      simp only [Act.put, List.setIfInBounds_toArray, List.set_cons_zero, List.set_cons_succ]
      refine wpS_nil ?_
      clear y0 y1 y2 f0 f1 f2 z0 z1 f3 f4 hu2 hu3
      generalize (((((wd.setCell ⟨w.heap.size + 1 + 1, 0, none⟩ (.slice al L1 cl)).setCell ⟨w.heap.size + 1 + 1, 1, none⟩ (.slice at2 L2 ct)).setCell ⟨w.heap.size + 1 + 1, 2, none⟩ (.slice ah hd.length ch)).setCell ⟨w.heap.size + 1 + 1 + 1, 0, none⟩ (.slice as9 L9 cs9)).setCell ⟨w.heap.size + 1 + 1 + 1, 1, none⟩ (.int .i64 m0)) = w9 at HF ⊢
      go_wp2
      obtain ⟨⟨t0, t1⟩, -⟩ := HF.out.2.1.two
      exact bodyPost_ret_by (results_cell_cell rfl _ _ _ _ _ _ rfl rfl (load_D _ _ _ _ _ HF.out.1) (load_S _ _ _ _ t0 t1)) rfl ⟨_, _, _, _, _, rfl, HF.out.2.2.1, HF.out.2.2.2.1, HF.out.2.2.2.2⟩
end Go.Proofs.Ytpkoiogdkaklfaa
