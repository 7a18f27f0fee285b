/-
  The walks of bits' Parse, and of the document's; of Short. Conditions: each theorem's own.
-/
import Derived.Test.YthgemalikenhfaaBitsText
namespace Go.Proofs.Ythgemalikenhfaa
open Go.RowKit
set_option linter.unusedVariables false
set_option linter.unusedSimpArgs false

def okB (l : List UInt8) : Bool := l.all (fun x => x == 48 || x == 49)
def bitsOf (l : List UInt8) : List Bool := l.map (fun x => x == 49)
/-- what is told of a text: its bits, or none; the error -/
def resB (l : List UInt8) : List Bool := if okB l then bitsOf l else []
def resE (l : List UInt8) : Int := if okB l then 0 else 2
theorem resB_ok {l : List UInt8} (h : okB l = true) : resB l = bitsOf l ∧ resE l = 0 := by simp [resB, resE, h]
theorem resB_no {l : List UInt8} (h : okB l = false) : resB l = [] ∧ resE l = 2 := by simp [resB, resE, h]
theorem bitsOf_length (l : List UInt8) : (bitsOf l).length = l.length := by simp [bitsOf]
theorem take_snocU (l : List UInt8) (j : Nat) (h : j < l.length) : l.take (j + 1) = l.take j ++ [l.getD j 0] := by
  rw [List.take_succ_eq_append_getElem h]
  simp [List.getD, List.getElem?_eq_getElem h]
theorem bitsOf_snoc (l : List UInt8) (j : Nat) (h : j < l.length) : bitsOf (l.take (j + 1)) = bitsOf (l.take j) ++ [l.getD j 0 == 49] := by
  rw [take_snocU l j h]; simp [bitsOf]
theorem okB_snoc (l : List UInt8) (j : Nat) (h : j < l.length) (ho : okB (l.take j) = true) (hx : l.getD j 0 = 48 ∨ l.getD j 0 = 49) : okB (l.take (j + 1)) = true := by
  rw [take_snocU l j h]
  unfold okB at *
  rw [List.all_append, ho]
  rcases hx with hx | hx <;> rw [hx] <;> rfl
theorem okB_no (l : List UInt8) (j : Nat) (h : j < l.length) (h1 : l.getD j 0 ≠ 48) (h2 : l.getD j 0 ≠ 49) : okB l = false := by
  unfold okB
  rw [List.all_eq_false]
  have e : l.getD j 0 = l[j] := by simp [List.getD, List.getElem?_eq_getElem h]
  refine ⟨l[j], List.getElem_mem h, ?_⟩
  rw [e] at h1 h2
  simp [h1, h2]
theorem rep_step (n j : Nat) (h : j < n) : List.replicate (n - j) false = false :: List.replicate (n - (j + 1)) false := by
  rw [show n - j = (n - (j + 1)) + 1 by omega]; rfl
theorem bits_zero (l : List UInt8) (n j : Nat) (hn : n = l.length) (h : j < n) (hx : l.getD j 0 = 48) : bitsOf (l.take j) ++ List.replicate (n - j) false = bitsOf (l.take (j + 1)) ++ List.replicate (n - (j + 1)) false := by
  rw [bitsOf_snoc l j (by omega), hx, rep_step n j h]
  simp
theorem bits_one (l : List UInt8) (n j : Nat) (hn : n = l.length) (h : j < n) (hx : l.getD j 0 = 49) : (bitsOf (l.take j) ++ List.replicate (n - j) false).set j true = bitsOf (l.take (j + 1)) ++ List.replicate (n - (j + 1)) false := by
  have hl : (bitsOf (l.take j)).length = j := by rw [bitsOf_length, List.length_take]; omega
  rw [bitsOf_snoc l j (by omega), hx, rep_step n j h, List.set_append_right _ _ (by omega), hl, Nat.sub_self]
  simp

theorem index_str (s : ByteArray) (j : Nat) (h : j < s.size) (w : World) : (Instr.index 9 (.string s) (.int .i64 (j : Int))).run Try.prog w = .ok (.int .u8 ((s.data.toList.getD j 0).toNat : Int)) w := by
  rw [run_index_string w 9 s .i64 (j : Int) Try.underlying9, dif_pos ⟨by omega, by omega⟩]
  have hj : j < s.data.toList.length := by simpa using h
  have e : s.data.toList.getD j 0 = s.data.toList[j] := by simp [List.getD, List.getElem?_eq_getElem hj]
  rw [e]
  rfl

theorem u8_eq (u : UInt8) (n : Nat) (hn : n < 256) : ((u.toNat : Int) = (n : Int)) ↔ u = UInt8.ofNat n := by
  constructor
  · intro h
    have : u.toNat = n := by omega
    apply UInt8.toNat_inj.1
    rw [this]
    simp [Nat.mod_eq_of_lt hn]
  · intro h
    rw [h]
    simp [Nat.mod_eq_of_lt hn]

set_option maxHeartbeats 1000000 in
theorem bparse_any (s : ByteArray) (w : World) (hm : s.size ≤ 1000) :
    Calls Try.prog 20 #[.string s] w fun e w' => ∃ v', e = .returned (.tuple #[v', .int .i64 (resE s.data.toList)]) ∧ RdV Value.bool false (fun i => i = w.heap.size) w' v' (resB s.data.toList) ∧ Grow w w' := by
  obtain ⟨i0, hi, hz0, hz1, hz2⟩ := info_parts Try.info4
  go_enter Try.func20, Try.ntmps20
  go_wp2_with (at_make; refine wpList_makeV rfl (.tmp 7) (.tmp 7) 22 rfl Value.bool false 4 i0 Try.underlying22 hi hz0 rfl 1 hz1 hz2 .i64 .i64 _ s.size rfl rfl rfl (by omega) (by omega) ?_)
  intro v1 w1 ho1 hg1 hlt1
  obtain ⟨a1, c1, hv1⟩ := ho1.shape
  rw [List.length_replicate] at hv1
  subst hv1
  have HO : Hid (OwnV Value.bool false (fun i => i = w.heap.size) w1 (.slice a1 s.size c1) (List.replicate s.size false)) := ho1
  clear ho1
  have hsl : s.size = s.data.toList.length := by rw [Array.length_toList]; rfl
  have HL : Hid (s.size = s.data.toList.length) := hsl
  clear hsl
  go_wp2
  go_loopg [11] s.size (fun k i wr => ∃ j : Nat, k = s.size - j ∧ j ≤ s.size ∧ i = .int .i64 j ∧ (∃ Q : List Bool, OwnV Value.bool false (fun i => i = w.heap.size) wr (.slice a1 s.size c1) Q ∧ Hid (Q = bitsOf (s.data.toList.take j) ++ List.replicate (s.size - j) false)) ∧ Hid (okB (s.data.toList.take j) = true) ∧ Grow w wr)
  case atStart => exact ⟨0, rfl, Nat.zero_le _, rfl, ⟨_, HO.out, by show _ = _; simp [bitsOf]⟩, rfl, hg1⟩
  case round =>
    obtain ⟨j, hk, hj, rfl, ⟨Q, hQ, HQ⟩, HK, hg⟩ := hrel
    by_cases hlt : j < s.size
    · have hlt' : (j : Int) < (s.size : Int) := by omega
      have HJ : Hid (j < s.size) := hlt
      have hix := index_str s j hlt
      have hQl : Q.length = s.size := by
        have := HL.out
        rw [HQ.out, List.length_append, bitsOf_length, List.length_take, List.length_replicate]; omega
      have h48 := u8_eq (s.data.toList.getD j 0) 48 (by omega)
      have h49 := u8_eq (s.data.toList.getD j 0) 49 (by omega)
      obtain ⟨z, hz⟩ : ∃ z : Int, z = ((s.data.toList.getD j 0).toNat : Int) := ⟨_, rfl⟩
      rw [← hz] at hix h48 h49
      clear hz
      by_cases e0 : z = 48
      · have hb : s.data.toList.getD j 0 = 48 := h48.1 e0
        have hQ' := bits_zero s.data.toList s.size j HL.out HJ.out hb
        have HQ' : Hid (Q = bitsOf (s.data.toList.take (j + 1)) ++ List.replicate (s.size - (j + 1)) false) := by show _ = _; rw [HQ.out, hQ']
        have HK' : Hid (okB (s.data.toList.take (j + 1)) = true) := okB_snoc _ j (by have := HL.out; omega) HK.out (.inl hb)
        clear h48 h49 hb hQ' hQl
        subst e0
        go_wp2
        go_roundg (s.size - (j + 1))
        case measure => have := HJ.out; omega
        case rel => exact ⟨j + 1, rfl, HJ.out, by go_num, ⟨Q, hQ, HQ'⟩, HK', hg⟩
      · by_cases e1 : z = 49
        · have hb : s.data.toList.getD j 0 = 49 := h49.1 e1
          have hQ' := bits_one s.data.toList s.size j HL.out HJ.out hb
          have HK' : Hid (okB (s.data.toList.take (j + 1)) = true) := okB_snoc _ j (by have := HL.out; omega) HK.out (.inr hb)
          obtain ⟨gg, oo, cc, hv, hpg, hgl, hlc, hcm, hcell, hfz, hset⟩ := hQ.row (j := j) (by omega)
          injection hv with e1' e2' e3'
          have E1 : a1 = some ⟨gg, oo, none⟩ := e1'
          have hpg' : gg = w.heap.size := hpg
          have hs := hset true
          have HS : Hid (OwnV Value.bool false (fun i => i = w.heap.size) (wr.setCell ⟨gg, oo + j, none⟩ (.bool true)) (.slice a1 s.size c1) (Q.set j true) ∧ Grow w (wr.setCell ⟨gg, oo + j, none⟩ (.bool true))) := ⟨hs, UpdS.new hg (UpdS.setCell (fun i => i = gg) ⟨gg, oo + j, none⟩ _ _ rfl) (fun i hi => by omega)⟩
          have HQ' : Hid (Q.set j true = bitsOf (s.data.toList.take (j + 1)) ++ List.replicate (s.size - (j + 1)) false) := by show _ = _; rw [HQ.out, hQ']
          clear h48 h49 hb hQ' hQl hs hset hpg hpg' e1' e2' e3' hlc hcm hQ hg
          generalize Q.getD j false = x at hcell
          subst e1
          subst E1
          clear e0
          go_wp2
          go_roundg (s.size - (j + 1))
          case measure => have := HJ.out; omega
          case rel => exact ⟨j + 1, rfl, HJ.out, by go_num, ⟨Q.set j true, HS.out.1, HQ'⟩, HK', HS.out.2⟩
        · have hno : okB s.data.toList = false := okB_no _ j (by have := HL.out; omega) (fun h => e0 (h48.2 h)) (fun h => e1 (h49.2 h))
          have D0 : (z == 48) = false := by simpa using e0
          have D1 : (z == 49) = false := by simpa using e1
          have D2 : (z != 48) = true := by simpa using e0
          have D3 : (z != 49) = true := by simpa using e1
          have HNO : Hid (okB s.data.toList = false) := hno
          clear hno
          clear h48 h49 hQl
          go_wp2
          go_ret2
          refine ⟨.slice none 0 0, by rw [(resB_no HNO.out).2]; rfl, ?_, hg⟩
          rw [(resB_no HNO.out).1]
          exact RdV.nil _ _ _ _ _ _ (Nat.zero_le _)
    · obtain rfl : j = s.size := by omega
      have hok : okB s.data.toList = true := by
        have := HK.out
        rwa [HL.out, List.take_length] at this
      have hq : Q = bitsOf s.data.toList := by
        have := HQ.out
        rwa [Nat.sub_self, List.replicate_zero, List.append_nil, HL.out, List.take_length] at this
      have hr := hQ.rd
      rw [hq] at hr
      rw [← (resB_ok hok).1] at hr
      have HOK : Hid (okB s.data.toList = true) := hok
      clear HQ hq hQ HK hok
      go_wp2
      go_ret2
      exact ⟨_, by rw [(resB_ok HOK.out).2]; rfl, hr, hg⟩

set_option maxHeartbeats 1000000 in
theorem rparse_any (s : ByteArray) (w : World) (hm : s.size ≤ 1000) :
    Calls Try.prog 22 #[.string s] w fun e w' => ∃ v', e = .returned (.tuple #[v', .bool (okB s.data.toList)]) ∧ RdV Value.bool false (fun i => w.heap.size ≤ i) w' v' (resB s.data.toList) ∧ Grow w w' := by
  obtain ⟨i0, hi, hz0, hz1, hz2⟩ := info_parts Try.info4
  have hsl : s.size = s.data.toList.length := by rw [Array.length_toList]; rfl
  have HL : Hid (s.size = s.data.toList.length) := hsl
  clear hsl
  go_enter Try.func22, Try.ntmps22
  go_wp2
  go_loopg [4, 5] s.size (fun k v i wr => ∃ j : Nat, k = s.size - j ∧ j ≤ s.size ∧ i = .int .i64 j ∧ OwnV Value.bool false (fun i => w.heap.size ≤ i) wr v (bitsOf (s.data.toList.take j)) ∧ Hid (okB (s.data.toList.take j) = true) ∧ Grow w wr)
  case atStart => exact ⟨0, rfl, Nat.zero_le _, rfl, OwnV.nil _ _ _ _ _, rfl, Grow.refl _⟩
  case round =>
    obtain ⟨j, hk, hj, rfl, hQ, HK, hg⟩ := hrel
    by_cases hlt : j < s.size
    · have hlt' : (j : Int) < (s.size : Int) := by omega
      have HJ : Hid (j < s.size) := hlt
      have hix := index_str s j hlt
      have h48 := u8_eq (s.data.toList.getD j 0) 48 (by omega)
      have h49 := u8_eq (s.data.toList.getD j 0) 49 (by omega)
      obtain ⟨z, hz⟩ : ∃ z : Int, z = ((s.data.toList.getD j 0).toNat : Int) := ⟨_, rfl⟩
      rw [← hz] at hix h48 h49
      clear hz
      obtain ⟨Q, HQ⟩ : ∃ Q, Q = bitsOf (s.data.toList.take j) := ⟨_, rfl⟩
      have hQl : Q.length ≤ 1000 := by rw [HQ, bitsOf_length, List.length_take]; omega
      have hsn := bitsOf_snoc s.data.toList j (by have := HL.out; omega)
      rw [← HQ] at hQ hsn
      clear HQ
      have hBr := hg.size
      by_cases e0 : z = 48
      · have hb : s.data.toList.getD j 0 = 48 := h48.1 e0
        have HK' : Hid (okB (s.data.toList.take (j + 1)) = true) := okB_snoc _ j (by have := HL.out; omega) HK.out (.inl hb)
        rw [hb] at hsn
        have HSN : Hid (bitsOf (s.data.toList.take (j + 1)) = Q ++ [false]) := hsn
        clear h48 h49 hb hsn
        subst e0
        go_wp2_with (at_builtin; refine wpList_appV (f := Value.bool) (d := false) (p := fun i => w.heap.size ≤ i) rfl (.tmp 22) (.tmp 27) 22 22 rfl i0 (.bool false) 1 Try.underlying22 hi hz0 hz1 hz2 rfl rfl rfl (hQ.grow ((Grow.refl wr).alloc _)) (Src.oneV (w := wr) Try.underlying22 Value.bool false rfl 4) (by simp only [maxLen, List.length_singleton]; omega) (by simp only [List.length_singleton]; omega) ?_)
        intro v2 w2 ho2 hu2
        have ho2' : OwnV Value.bool false (fun i => w.heap.size ≤ i) w2 v2 (bitsOf (s.data.toList.take (j + 1))) := by
          rw [HSN.out]
          exact ho2.mono (fun i _ h => by
              rcases h with h | h
              · exact h
              · rw [h]; exact Nat.le_trans hBr (by simp))
        have hg2 : Grow w w2 := UpdS.new (hg.alloc _) hu2 (fun i hi => hi)
        clear ho2 hu2 hQ
        go_wp2
        go_roundg (s.size - (j + 1))
        case measure => have := HJ.out; omega
        case rel => exact ⟨j + 1, rfl, HJ.out, by go_num, ho2', HK', hg2⟩
      · by_cases e1 : z = 49
        · have hb : s.data.toList.getD j 0 = 49 := h49.1 e1
          have HK' : Hid (okB (s.data.toList.take (j + 1)) = true) := okB_snoc _ j (by have := HL.out; omega) HK.out (.inr hb)
          rw [hb] at hsn
          have HSN : Hid (bitsOf (s.data.toList.take (j + 1)) = Q ++ [true]) := hsn
          clear h48 h49 hb hsn e0
          subst e1
          go_wp2_with (at_builtin; refine wpList_appV (f := Value.bool) (d := false) (p := fun i => w.heap.size ≤ i) rfl (.tmp 22) (.tmp 27) 22 22 rfl i0 (.bool false) 1 Try.underlying22 hi hz0 hz1 hz2 rfl rfl rfl (hQ.grow ((Grow.refl wr).alloc _)) (Src.oneV (w := wr) Try.underlying22 Value.bool true rfl 4) (by simp only [maxLen, List.length_singleton]; omega) (by simp only [List.length_singleton]; omega) ?_)
          intro v2 w2 ho2 hu2
          have ho2' : OwnV Value.bool false (fun i => w.heap.size ≤ i) w2 v2 (bitsOf (s.data.toList.take (j + 1))) := by
            rw [HSN.out]
            exact ho2.mono (fun i _ h => by
              rcases h with h | h
              · exact h
              · rw [h]; exact Nat.le_trans hBr (by simp))
          have hg2 : Grow w w2 := UpdS.new (hg.alloc _) hu2 (fun i hi => hi)
          clear ho2 hu2 hQ
          go_wp2
          go_roundg (s.size - (j + 1))
          case measure => have := HJ.out; omega
          case rel => exact ⟨j + 1, rfl, HJ.out, by go_num, ho2', HK', hg2⟩
        · have hno : okB s.data.toList = false := okB_no _ j (by have := HL.out; omega) (fun h => e0 (h48.2 h)) (fun h => e1 (h49.2 h))
          have D0 : (z == 48) = false := by simpa using e0
          have D1 : (z == 49) = false := by simpa using e1
          have D2 : (z != 48) = true := by simpa using e0
          have D3 : (z != 49) = true := by simpa using e1
          have HNO : Hid (okB s.data.toList = false) := hno
          clear hno
          clear h48 h49 hsn hQ
          go_wp2
          go_ret2
          refine ⟨.slice none 0 0, by rw [HNO.out]; rfl, ?_, hg⟩
          rw [(resB_no HNO.out).1]
          exact RdV.nil _ _ _ _ _ _ (Nat.zero_le _)
    · obtain rfl : j = s.size := by omega
      have hok : okB s.data.toList = true := by
        have := HK.out
        rwa [HL.out, List.take_length] at this
      have hr := hQ.rd
      rw [HL.out, List.take_length] at hr
      rw [← (resB_ok hok).1] at hr
      have HOK : Hid (okB s.data.toList = true) := hok
      clear hQ HK hok
      obtain ⟨a8, c8, hv8⟩ := hr.shape
      go_wp2
      go_ret2
      exact ⟨_, by rw [HOK.out]; rfl, hr, hg⟩

set_option maxHeartbeats 1000000 in
theorem short_any (s : ByteArray) (mi : Int) (m : Nat) (w : World) (hmi : mi = m) (hs : s.size ≤ maxLen) (hm : m ≤ 1000) :
    Calls Try.prog 21 #[.string s, .int .i64 mi] w fun e w' => ∃ s' : ByteArray, e = .returned (.string s') ∧ s'.size ≤ m ∧ w = w' := by
  subst hmi
  unfold maxLen at hs
  by_cases hle : s.size ≤ m
  · have hle' : ¬ (m : Int) < (s.size : Int) := by omega
    go_enter Try.func21, Try.ntmps21
    go_wp2
    go_ret
    exact ⟨s, rfl, hle, rfl⟩
  · have hle' : (m : Int) < (s.size : Int) := by omega
    go_enter Try.func21, Try.ntmps21
    go_wp2
    go_ret
    refine ⟨_, rfl, ?_, rfl⟩
    simp [ByteArray.size_extract]
    omega
end Go.Proofs.Ythgemalikenhfaa
