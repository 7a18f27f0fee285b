/-
  The walks of give, room. Conditions: each theorem's own.
-/
import Derived.Test.YtoobohbghobfhaaCapG
namespace Go.Proofs.Ytoobohbghobfhaa
open Go.RowKit
set_option linter.unusedVariables false
set_option linter.unusedSimpArgs false

/-- what turned is new, or may -/
theorem UpdS.past {S T : Nat → Prop} {x y z : World} (h : UpdS S x y) (k : UpdS T y z) (hT : ∀ i, i < x.heap.size → T i → S i) : UpdS S x z :=
  ⟨k.os.trans h.os, k.tape.trans h.tape, k.output.trans h.output, Nat.le_trans h.size k.size, fun i hi hn => (k.block i (Nat.lt_of_lt_of_le hi h.size) (fun ht => hn (hT i hi ht))).trans (h.block i hi hn)⟩

set_option maxHeartbeats 4000000 in
theorem give_any (b : Nat) (S : List Sl) (k n : Int) (i : Nat) (r : Nat) (w : World) (h : TbAt w b S k n) (hS : S.length = 8) (hk1 : 1 ≤ k) (hk2 : k ≤ 1073741824) (hn0 : 0 ≤ n) (hn : n < 1048576) (hi : i < 8) : Calls Try.prog 29 #[.pointer (some ⟨b, 0, none⟩), .int .i64 i, .int .i64 r] w fun e w' => e = .returned (.agg #[.int .i64 i, .int .i64 (k * 1048576 + n)]) ∧ TbAt w' b (S.set i ⟨i, k * 1048576 + n, r⟩) k (n + 1) ∧ UpdS (fun x => x = b) w w' := by
  have hgen := fun u (hu : TbAt u b S k n) => gen_any b S k n n u hu hS hk1 hk2 hn0 (by omega)
  have h0 : 0 ≤ (i : Int) := by omega
  have h8 : (i : Int) < 8 := by omega
  have hw1 : IntKind.i64.wrap (n + 1) = n + 1 := by rw [IntKind.wrap_i64]; omega
  obtain ⟨gg, hgg⟩ : ∃ gg, gg = k * 1048576 + n := ⟨_, rfl⟩
  rw [← hgg] at hgen ⊢
  clear hgg
  obtain ⟨W0, hW0⟩ : ∃ W0, W0 = w.alloc (.cells #[.int .i64 0, .int .i64 0] 33) := ⟨_, rfl⟩
  have g0 : Grow w W0 := by rw [hW0]; exact (Grow.refl w).alloc _
  have hV : VarAt W0 w.heap.size [.int .i64 0, .int .i64 0] := by rw [hW0]; exact VarAt.new w [.int .i64 0, .int .i64 0] 33
  have hT := h.grow g0
  have hg1 := hgen W0 hT
  have HX : Hid (TbAt W0 b S k n ∧ VarAt W0 w.heap.size [.int .i64 0, .int .i64 0] ∧ Grow w W0 ∧ b < w.heap.size ∧ S.length = 8) := ⟨hT, hV, g0, h.lt, hS⟩
  obtain ⟨⟨c24, c25⟩, -⟩ := hT.kn hS
  obtain ⟨b1, hb1⟩ : ∃ b1, b1 = w.heap.size := ⟨_, rfl⟩
  have HB : Hid (b1 = w.heap.size) := hb1
  rw [← hb1] at HX
  have hlt : b < W0.heap.size := hT.lt
  have hlt1 : b1 < W0.heap.size := HX.out.2.1.lt
  clear hgen hT hV g0 h hS hk1 hk2 hn0
  go_enter Try.func29, Try.ntmps29
  go_upto_region 1 with fail
  rw [← hW0, ← hb1]
  clear hW0 hb1
  go_wp2_with fail
  refine hg1.mono ?_
  rintro e w2 ⟨rfl, rfl⟩
  clear hg1
  obtain ⟨⟨s0, s1, s2⟩, z0, z1, z2⟩ := HX.out.1.sl HX.out.2.2.2.2 hi
  obtain ⟨W1, hW1⟩ : ∃ W1, W1 = ((W0.setCell ⟨b, i * 3, none⟩ (.int .i64 (i : Int))).setCell ⟨b, i * 3 + 1, none⟩ (.int .i64 gg)).setCell ⟨b, i * 3 + 2, none⟩ (.int .i64 (r : Int)) := ⟨_, rfl⟩
  have hu1 : UpdS (fun x => x = b) W0 W1 := by rw [hW1]; exact upd_slot W0 b i _ _ _
  have hT1 : TbAt W1 b (S.set i ⟨i, gg, r⟩) k n := by rw [hW1]; exact HX.out.1.put HX.out.2.2.2.2 hi ⟨i, gg, r⟩
  have hs1 : W1.heap.size = W0.heap.size := by rw [hW1]; simp
  have hV1 := VarAt.new W1 [.int .i64 (i : Int), .int .i64 gg] 33
  rw [hs1] at hV1
  have gd : Grow W1 (W1.alloc (.cells #[.int .i64 (i : Int), .int .i64 gg] 33)).drew := ((Grow.refl W1).alloc _).drew
  have HY : Hid (TbAt (W1.alloc (.cells #[.int .i64 (i : Int), .int .i64 gg] 33)).drew b (S.set i ⟨i, gg, r⟩) k n ∧ VarAt (W1.alloc (.cells #[.int .i64 (i : Int), .int .i64 gg] 33)).drew b1 [.int .i64 0, .int .i64 0] ∧ VarAt (W1.alloc (.cells #[.int .i64 (i : Int), .int .i64 gg] 33)).drew W0.heap.size [.int .i64 (i : Int), .int .i64 gg] ∧ UpdS (fun x => x = b) w (W1.alloc (.cells #[.int .i64 (i : Int), .int .i64 gg] 33)).drew) :=
    ⟨hT1.grow gd, (HX.out.2.1.upd hu1 (by have := HX.out.2.2.2.1; omega)).grow gd, hV1.grow (Grow.refl _).drew, (HX.out.2.2.1.s.trans hu1).trans gd.s⟩
  have HS : Hid ((S.set i ⟨i, gg, r⟩).length = 8) := by show (S.set i _).length = 8; rw [List.length_set]; exact HX.out.2.2.2.2
  clear hu1 hT1 hs1 hV1 gd
  go_wp2
  go_region
  all_goals
    rw [← hW1]
    clear hW1 s0 s1 s2 z0 z1 z2 c24 c25
    generalize (W1.alloc (.cells #[.int .i64 (i : Int), .int .i64 gg] 33)).drew = W2 at HY ⊢
    obtain ⟨bN, hbN⟩ : ∃ bN, bN = W0.heap.size := ⟨_, rfl⟩
    rw [← hbN] at HY hlt hlt1 ⊢
    clear hbN
    have hlt2 : b < b1 := HX.out.2.2.2.1
    obtain ⟨⟨c24, c25⟩, z24, z25⟩ := HY.out.1.kn HS.out
    obtain ⟨⟨m0, m1⟩, f0, f1⟩ := HY.out.2.1.two
    obtain ⟨⟨n0, n1⟩, -⟩ := HY.out.2.2.1.two
    go_wp2
    have hT3 := HY.out.1.out HS.out (n + 1)
    have hV3 := HY.out.2.1.upd (upd_one W2 b 25 (.int .i64 (n + 1))) (by omega)
    have hu3 := HY.out.2.2.2.trans (upd_one W2 b 25 (.int .i64 (n + 1)))
    have hU := upd_pair (W2.setCell ⟨b, 25, none⟩ (.int .i64 (n + 1))) b1 (.int .i64 (i : Int)) (.int .i64 gg)
    exact bodyPost_ret_by (results_cell rfl _ _ _ _ rfl (load_C b1 _ _ _ (hV3.set2 _ _))) rfl ⟨rfl, hT3.upd hU (by omega), hu3.past hU (fun x hx e => by have := HB.out; omega)⟩

theorem room_le {S : List Sl} (h : S.length = 8) : roomN S ≤ 8 := by
  have := List.findIdx_le_length (p := Sl.emp) (xs := S)
  unfold roomN
  omega
theorem room_at {S : List Sl} {j : Nat} (hS : S.length = 8) (hj : j < 8) (he : (S.getD j Sl.zero).emp = true) (hb : ∀ i, i < j → (S.getD i Sl.zero).emp = false) : roomN S = j := by
  have e1 : ∀ i (hi : i < S.length), S.getD i Sl.zero = S[i] := fun i hi => by simp [List.getD, List.getElem?_eq_getElem hi]
  unfold roomN
  rw [List.findIdx_eq (by omega)]
  refine ⟨by rw [← e1]; exact he, fun i hi => ?_⟩
  rw [← e1]; exact hb i hi
theorem room_none {S : List Sl} (hS : S.length = 8) (hb : ∀ i, i < 8 → (S.getD i Sl.zero).emp = false) : roomN S = 8 := by
  have e1 : ∀ i (hi : i < S.length), S.getD i Sl.zero = S[i] := fun i hi => by simp [List.getD, List.getElem?_eq_getElem hi]
  unfold roomN
  rw [← hS]
  refine List.findIdx_eq_length.2 fun x hx => ?_
  obtain ⟨i, hi, e⟩ := List.mem_iff_getElem.1 hx
  rw [← e, ← e1 i hi]
  exact hb i (by omega)

def roomI (S : List Sl) : Int := if roomN S < 8 then (roomN S : Int) else 0
def roomB (S : List Sl) : Bool := decide (roomN S < 8)
theorem room_ret {S : List Sl} {j : Nat} (h : roomN S = j) (hj : j < 8) : Ending.returned (.tuple #[.int .i64 j, .bool true]) = .returned (.tuple #[.int .i64 (roomI S), .bool (roomB S)]) := by
  unfold roomI roomB; rw [h, if_pos hj, decide_eq_true hj]
theorem room_ret8 {S : List Sl} (h : roomN S = 8) : Ending.returned (.tuple #[.int .i64 0, .bool false]) = .returned (.tuple #[.int .i64 (roomI S), .bool (roomB S)]) := by
  unfold roomI roomB; rw [h]; rfl

set_option maxHeartbeats 2000000 in
theorem room_out (b : Nat) (S : List Sl) (k n : Int) (w : World) (h : TbAt w b S k n) (hS : S.length = 8) (hn : n = 1048576) : Calls Try.prog 35 #[.pointer (some ⟨b, 0, none⟩)] w fun e w' => e = .returned (.tuple #[.int .i64 0, .bool false]) ∧ Grow w w' := by
  subst hn
  obtain ⟨⟨c24, c25⟩, -⟩ := h.kn hS
  clear h
  go_enter Try.func35, Try.ntmps35
  go_wp2
  go_ret2
  exact ⟨rfl, Grow.refl _⟩

set_option maxHeartbeats 4000000 in
theorem room_in (b : Nat) (S : List Sl) (k n : Int) (w : World) (h : TbAt w b S k n) (hS : S.length = 8) (hn : ¬ n = 1048576) : Calls Try.prog 35 #[.pointer (some ⟨b, 0, none⟩)] w fun e w' => e = .returned (.tuple #[.int .i64 (roomI S), .bool (roomB S)]) ∧ Grow w w' := by
  obtain ⟨⟨c24, c25⟩, -⟩ := h.kn hS
  have hne := neqs hn
  have HRg : Hid (w.rangeAt b 0 (S.flatMap Sl.cs)) := h.range hS
  have hl := flat24 hS
  have HI : Hid ((Try.prog.info? 69).map (·.size) = some (S.flatMap Sl.cs).length) := by show _ = _; rw [hl]; exact infoA8
  have HX := hid (index_sl S hS)
  have HS : Hid (S.length = 8) := hS
  clear h hn hl hS
  go_enter Try.func35, Try.ntmps35
  go_wp2_with (refine wpList_load_mid rfl 69 (.tmp 13) rfl b 0 rfl (S.flatMap Sl.cs) _ HRg.out Try.underlying69 rfl HI.out ?_)
  generalize (S.flatMap Sl.cs).toArray = A at HX
  clear HRg HI c24 c25 hne
  go_wp2
  go_loopg [15] 8 (fun m iv wr => ∃ j : Nat, m = 8 - j ∧ j ≤ 8 ∧ iv = .int .i64 j ∧ Hid (∀ i, i < j → (S.getD i Sl.zero).emp = false) ∧ Grow w wr)
  case atStart => exact ⟨0, rfl, Nat.zero_le _, rfl, fun i hi => absurd hi (Nat.not_lt_zero _), Grow.refl _⟩
  case round =>
    obtain ⟨j, hk, hj, rfl, HN, hg⟩ := hrel
    by_cases hlt : j < 8
    · have hlt' : (j : Int) < 8 := by omega
      have hx := HX.out j hlt
      have HJ : Hid (j < 8 ∧ gk = 8 - j) := ⟨hlt, hk⟩
      have HE : Hid (∀ x, S.getD j Sl.zero = x → (x.emp = true → roomN S = j) ∧ (x.emp = false → ∀ i, i < j + 1 → (S.getD i Sl.zero).emp = false)) := fun x e => by
        subst e
        refine ⟨fun he => room_at HS.out hlt he HN.out, fun he i hi => ?_⟩
        by_cases hij : i = j
        · subst hij; exact he
        · exact HN.out i (by omega)
      generalize hy : S.getD j Sl.zero = x at hx
      have HE := HE.out x hy
      obtain ⟨xs, xg, xr⟩ := x
      simp only at hx
      have hem := fun u => empty_any ⟨xs, xg, xr⟩ u
      simp only at hem
      have HE := hid HE
      clear hy hk hlt hj
      cases he : (⟨xs, xg, xr⟩ : Sl).emp
      · rw [he] at hem HE
        have HN2 := hid (HE.out.2 rfl)
        clear he HE
        go_wp2_with fail
        refine (hem _).mono ?_
        rintro e w2 ⟨rfl, g2⟩
        have HG := hid ((hg.alloc (.cells #[.int .i64 xs, .int .i64 xg, .int .i64 xr] 68)).trans g2)
        clear g2 hg hem
        go_wp2
        go_roundg (8 - (j + 1))
        case measure => have := HJ.out; omega
        case rel => exact ⟨j + 1, rfl, HJ.out.1, by go_num, HN2.out, HG.out⟩
      · rw [he] at hem HE
        have HR := hid (HE.out.1 rfl)
        clear he HE
        go_wp2_with fail
        refine (hem _).mono ?_
        rintro e w2 ⟨rfl, g2⟩
        have HG := hid ((hg.alloc (.cells #[.int .i64 xs, .int .i64 xg, .int .i64 xr] 68)).trans g2)
        clear g2 hg hem
        go_wp2
        go_ret2
        exact ⟨room_ret HR.out HJ.out.1, HG.out⟩
    · obtain rfl : j = 8 := by omega
      have HR := hid (room_none HS.out HN.out)
      clear hk hj hlt
      go_wp2
      go_ret2
      exact ⟨room_ret8 HR.out, hg⟩
end Go.Proofs.Ytoobohbghobfhaa
