/-
  The walk of FifoTexts. Conditions: the theorem's own.
-/
import Derived.Test.YtmnaadbemlecpaaFifS
import Derived.Test.YtmnaadbemlecpaaFifA
import Derived.Test.YtmnaadbemlecpaaWords
import Derived.Deep.LoopGhost
namespace Go.Proofs.Ytmnaadbemlecpaa
open Go.RowKit
set_option linter.unusedVariables false
set_option linter.unusedSimpArgs false

/-- 'Short' of five bytes -/
def shortB (s : ByteArray) : ByteArray := if s.size ≤ 5 then s else s.extract 0 5

set_option maxHeartbeats 1000000 in
theorem short5_any (s : ByteArray) (w : World) (hs : s.size ≤ maxLen) :
    Calls Try.prog 24 #[.string s, .int .i64 5] w fun e w' => e = .returned (.string (shortB s)) ∧ w = w' := by
  unfold maxLen at hs
  by_cases hle : s.size ≤ 5
  · have hle' : ¬ 5 < (s.size : Int) := by omega
    have E : Hid (shortB s = s) := if_pos hle
    rw [E.out]
    go_enter Try.func24, Try.ntmps24
    go_wp2
    go_ret
    exact ⟨rfl, rfl⟩
  · have hle' : 5 < (s.size : Int) := by omega
    have E : Hid (shortB s = s.extract 0 5) := if_neg hle
    rw [E.out]
    go_enter Try.func24, Try.ntmps24
    go_wp2
    go_ret
    exact ⟨rfl, rfl⟩

theorem short_at (ls : List ByteArray) (j : Nat) (h : j < ls.length) : (ls.map shortB).getD j ⟨#[]⟩ = shortB (ls.getD j ⟨#[]⟩) := by
  simp [List.getD, List.getElem?_eq_getElem h]
/-- a Put of the next one -/
theorem putL_next {α : Type} (n : Nat) (S : List α) (d : α) (j : Nat) (h : j < S.length) : putL n (S.take (min n j)) (S.getD j d) = S.take (min n (j + 1)) := by
  unfold putL
  have hl : (S.take (min n j)).length = min n j := by rw [List.length_take]; omega
  rw [hl]
  by_cases hn : n ≤ j
  · rw [if_pos (by omega), show min n j = n by omega, show min n (j + 1) = n by omega]
  · rw [if_neg (by omega), show min n j = j by omega, show min n (j + 1) = j + 1 by omega, take_snoc S d j h]
theorem putE_next {α : Type} (n : Nat) (S : List α) (j : Nat) (h : j < S.length) : putE n (S.take (min n j)).length = if n ≤ j then 8 else 0 := by
  unfold putE
  have hl : (S.take (min n j)).length = min n j := by rw [List.length_take]; omega
  rw [hl]
  by_cases hn : n ≤ j
  · rw [if_pos (by omega), if_pos hn]
  · rw [if_neg (by omega), if_neg hn]

/-- what holds at each step -/
def TxtI (w : World) (b n : Nat) (u : World) (zs : List ByteArray) : Prop := ∃ p, QAt Value.string ⟨#[]⟩ p u b n zs ∧ (∀ i, p i → w.heap.size ≤ i) ∧ Grow w u ∧ w.heap.size ≤ b
theorem TxtI.to {w u u' : World} {b n : Nat} {zs : List ByteArray} {p p' : Nat → Prop} (hp : ∀ i, p i → w.heap.size ≤ i) (hg : Grow w u) (hb : w.heap.size ≤ b)
    (hq : QAt Value.string ⟨#[]⟩ p' u' b n zs) (hp' : ∀ i, p' i → p i ∨ u.heap.size ≤ i) (hu : UpdS (fun i => p i ∨ i = b) u u') : TxtI w b n u' zs :=
  ⟨p', hq, fun i hi => (hp' i hi).elim (hp i) (fun h => Nat.le_trans hg.size h), UpdS.new hg hu (fun i hi => hi.elim (hp i) (fun e => by rw [e]; exact hb)), hb⟩

set_option maxRecDepth 16000 in
set_option maxHeartbeats 8000000 in
theorem fifoTexts_walk (x : Int) (v1 : Value) (ls : List ByteArray) (w : World) (p1 : Nat → Prop) (hx : (Lit.int .i64 x).wf = true) (hl : RdV Value.string ⟨#[]⟩ p1 w v1 ls) (hls : ∀ y ∈ ls, y.size ≤ maxLen) :
    Calls Try.prog 8 #[.int .i64 x, v1] w fun e w' => e = .returned (.bool true) ∧ Grow w w' := by
  have har := around_any x 5 w hx (by omega) (by omega)
  have hab := around_bd x 5 (by omega)
  generalize around x 5 = r at har hab
  obtain ⟨n0, rfl⟩ := Int.eq_ofNat_of_zero_le hab.1
  obtain ⟨n, hn⟩ : ∃ n, n = n0 + 1 := ⟨_, rfl⟩
  have hw1 : IntKind.i64.wrap (1 + (n0 : Int)) = (n : Int) := by rw [IntKind.wrap_i64]; omega
  have hn1 : 1 ≤ n := by omega
  have hn2 : n ≤ 5 := by omega
  obtain ⟨a1, c1, rfl⟩ := hl.shape
  have lm1 := hl.len
  unfold maxLen at lm1
  have HL : Hid (RdV Value.string ⟨#[]⟩ p1 w (.slice a1 ls.length c1) ls) := hl
  clear hn hab hl
  go_enter Try.func8, Try.ntmps8
  go_wp2_with fail
  refine har.mono ?_
  rintro e w1 ⟨rfl, rfl⟩
  clear har
  go_wp2_with fail
  refine (snew_yes n w hn1 (by omega)).mono ?_
  rintro e w1 ⟨b, rfl, q1, g1, hb1⟩
  have H1 : Hid (TxtI w b n w1 ((ls.map shortB).take (min n 0))) := by
    rw [Nat.min_zero, List.take_zero]
    exact ⟨_, q1, fun _ h => False.elim h, g1, hb1⟩
  clear q1 g1 hb1
  go_wp2
  go_loopg [8] 8 (fun k i wr => ∃ j : Nat, k = 8 - j ∧ j ≤ 8 ∧ j ≤ ls.length ∧ i = .int .i64 j ∧ Hid (TxtI w b n wr ((ls.map shortB).take (min n j))))
  case atStart => exact ⟨0, rfl, Nat.zero_le _, Nat.zero_le _, rfl, H1⟩
  case round =>
    clear H1
    obtain ⟨j, hk, hj, hjl, rfl, HQ⟩ := hrel
    by_cases hlt : j < ls.length
    · have hlt' : (j : Int) < (ls.length : Int) := by omega
      by_cases h8 : j < 8
      · have h8' : (j : Int) < 8 := by omega
        have HJ : Hid (j < ls.length ∧ j < 8 ∧ gk = 8 - j) := ⟨hlt, h8, hk⟩
        obtain ⟨p, q, hp, hg, hb⟩ := HQ.out
        obtain ⟨g, o, e1, -, hc1⟩ := (HL.out.grow hg).addr (by omega)
        have f1 := hc1 j hlt
        have hpu := sput_any wr p b n _ q ((ls.map shortB).getD j ⟨#[]⟩)
        rw [putL_next n (ls.map shortB) ⟨#[]⟩ j (by rw [List.length_map]; exact hlt), putE_next n (ls.map shortB) j (by rw [List.length_map]; exact hlt), short_at ls j hlt] at hpu
        have hsz := hls (ls.getD j ⟨#[]⟩) (by simp only [List.getD, List.getElem?_eq_getElem hlt, Option.getD_some]; exact List.getElem_mem hlt)
        have hsh := fun u => short5_any (ls.getD j ⟨#[]⟩) u hsz
        generalize ls.getD j ⟨#[]⟩ = y at f1 hsh hpu
        generalize shortB y = z at hsh hpu
        have HP : Hid ((∀ i, p i → w.heap.size ≤ i) ∧ Grow w wr ∧ w.heap.size ≤ b) := ⟨hp, hg, hb⟩
        subst e1
        clear hc1 q hp hg hb HQ hk hj hjl hsz
        by_cases hjn : n ≤ j
        · skip
          have hjn' : ¬ (j : Int) < (n : Int) := by omega
          rw [if_pos hjn] at hpu
          go_wp2_with fail
          refine (hsh wr).mono ?_
          rintro e w3 ⟨rfl, rfl⟩
          clear hsh f1
          go_wp2_with fail
          refine hpu.mono ?_
          rintro e w3 ⟨rfl, p3, q3, hp3, hu3⟩
          have HT3 : Hid (TxtI w b n w3 ((ls.map shortB).take (min n (j + 1)))) := TxtI.to HP.out.1 HP.out.2.1 HP.out.2.2 q3 hp3 hu3
          clear q3 hp3 hu3 hpu
          go_wp2
          go_roundg (8 - (j + 1))
          case measure => have := HJ.out; omega
          case rel => exact ⟨j + 1, rfl, by have := HJ.out; omega, by have := HJ.out; omega, by go_num, HT3⟩
        · skip
          have hjn' : (j : Int) < (n : Int) := by omega
          rw [if_neg hjn] at hpu
          go_wp2_with fail
          refine (hsh wr).mono ?_
          rintro e w3 ⟨rfl, rfl⟩
          clear hsh f1
          go_wp2_with fail
          refine hpu.mono ?_
          rintro e w3 ⟨rfl, p3, q3, hp3, hu3⟩
          have HT3 : Hid (TxtI w b n w3 ((ls.map shortB).take (min n (j + 1)))) := TxtI.to HP.out.1 HP.out.2.1 HP.out.2.2 q3 hp3 hu3
          clear q3 hp3 hu3 hpu
          go_wp2
          go_roundg (8 - (j + 1))
          case measure => have := HJ.out; omega
          case rel => exact ⟨j + 1, rfl, by have := HJ.out; omega, by have := HJ.out; omega, by go_num, HT3⟩
      · have h8' : ¬ (j : Int) < 8 := by omega
        have HMJ : Hid (min n j = n) := by show min n j = n; omega
        obtain ⟨W6, rfl⟩ : ∃ W6, W6 = wr := ⟨_, rfl⟩
        have hnl : ¬ (ls.length : Int) ≤ (n : Int) := by omega
        have hnl2 : ¬ ls.length ≤ n := by omega
        have hnl3 : (n : Int) ≤ (ls.length : Int) := by omega
        have hnl4 : n ≤ ls.length := by omega
        have H2 : Hid (TxtI w b n W6 (((ls.map shortB).take n).drop 0)) := by rw [List.drop_zero]; rw [HMJ.out] at HQ; exact HQ.out
        have HMM : Hid (n ≤ ls.length) := by show n ≤ ls.length; omega
        clear HQ hk HMJ
        go_wp2
        go_loopg [9] n (fun k i wr => ∃ j2 : Nat, k = n - j2 ∧ j2 ≤ n ∧ i = .int .i64 j2 ∧ Hid (TxtI w b n wr (((ls.map shortB).take n).drop j2)))
        case atStart => exact ⟨0, rfl, Nat.zero_le _, rfl, H2⟩
        case round =>
          clear H2
          obtain ⟨j2, hk2, hj2, rfl, HQ2⟩ := hrel
          obtain ⟨p, q, hp, hg, hb⟩ := HQ2.out
          have htk := stake_any wr p b n _ q
          have hll : (((ls.map shortB).take n).drop j2).length = n - j2 := by have := HMM.out; rw [List.length_drop, List.length_take, List.length_map]; omega
          by_cases hlt2 : j2 < n
          · have hlt2' : (j2 : Int) < (n : Int) := by omega
            have HJ2 : Hid (j2 < n ∧ gk = n - j2) := ⟨hlt2, hk2⟩
            have hlz : j2 < ls.length := by have := HMM.out; omega
            have hlzi : (j2 : Int) < (ls.length : Int) := by omega
            have hd : decide (0 < (((ls.map shortB).take n).drop j2).length) = true := decide_eq_true (by omega)
            have hf : (((ls.map shortB).take n).drop j2).getD 0 ⟨#[]⟩ = shortB (ls.getD j2 ⟨#[]⟩) := by
              rw [← short_at ls j2 hlz]
              simp [List.getD, List.getElem?_take, hlt2]
            rw [hd, hf, List.drop_drop] at htk
            obtain ⟨g, o, e1, -, hc1⟩ := (HL.out.grow hg).addr (by omega)
            have f1 : ∀ u, Grow w u → u.cell? ⟨g, o + j2, none⟩ = some (.string (ls.getD j2 ⟨#[]⟩)) := fun u hu => by
              obtain ⟨g', o', e', -, hc'⟩ := (HL.out.grow hu).addr (by omega)
              rw [e1] at e'
              injection e' with e'
              injection e' with eb eo
              subst eb eo
              exact hc' j2 hlz
            have hsz := hls (ls.getD j2 ⟨#[]⟩) (by simp only [List.getD, List.getElem?_eq_getElem hlz, Option.getD_some]; exact List.getElem_mem hlz)
            have hsh := fun u => short5_any (ls.getD j2 ⟨#[]⟩) u hsz
            generalize ls.getD j2 ⟨#[]⟩ = y at f1 hsh htk
            generalize shortB y = z at hsh htk
            have HP : Hid ((∀ i, p i → w.heap.size ≤ i) ∧ Grow w wr ∧ w.heap.size ≤ b) := ⟨hp, hg, hb⟩
            subst e1
            clear hc1 q hp hg hb HQ2 hd hf hk2 hsz hll
            go_wp2_with fail
            refine htk.mono ?_
            rintro e w3 ⟨rfl, q3, hu3⟩
            have HT3 : Hid (TxtI w b n w3 (((ls.map shortB).take n).drop (j2 + 1))) := TxtI.to HP.out.1 HP.out.2.1 HP.out.2.2 q3 (fun i hi => .inl hi) hu3
            have f3 := f1 w3 (by obtain ⟨_, _, _, h, _⟩ := HT3.out; exact h)
            have hsh3 := hsh w3
            clear q3 hu3 htk f1 hsh
            go_wp2_with fail
            refine hsh3.mono ?_
            rintro e w4 ⟨rfl, rfl⟩
            clear f3 hsh3
            go_wp2
            go_roundg (n - (j2 + 1))
            case measure => have := HJ2.out; omega
            case rel => exact ⟨j2 + 1, rfl, HJ2.out.1, by go_num, HT3⟩
          · have hlt2' : ¬ (j2 : Int) < (n : Int) := by omega
            have hd : decide (0 < (((ls.map shortB).take n).drop j2).length) = false := decide_eq_false (by omega)
            have hf : (((ls.map shortB).take n).drop j2).getD 0 ⟨#[]⟩ = ⟨#[]⟩ := by
              rw [List.eq_nil_of_length_eq_zero (l := ((ls.map shortB).take n).drop j2) (by omega)]; rfl
            rw [hd, hf] at htk
            have HP : Hid ((∀ i, p i → w.heap.size ≤ i) ∧ Grow w wr ∧ w.heap.size ≤ b) := ⟨hp, hg, hb⟩
            clear q hp hg hb HQ2 hd hf hk2 hll
            go_wp2_with fail
            refine htk.mono ?_
            rintro e w3 ⟨rfl, q3, hu3⟩
            have HG3 : Hid (Grow w w3) := UpdS.new HP.out.2.1 hu3 (fun i hi => hi.elim (HP.out.1 i) (fun e => by rw [e]; exact HP.out.2.2))
            clear q3 hu3 htk
            go_wp2_with fail
            refine (lives_any w3).mono ?_
            rintro e w4 ⟨rfl, g4⟩
            go_wp2
            go_ret
            exact ⟨rfl, HG3.out.trans g4⟩
    · have hlt' : ¬ (j : Int) < (ls.length : Int) := by omega
      by_cases hln : ls.length ≤ n
      · have HMJ : Hid (min n j = ls.length) := by show min n j = ls.length; omega
        obtain ⟨W6, rfl⟩ : ∃ W6, W6 = wr := ⟨_, rfl⟩
        have hnl : (ls.length : Int) ≤ (n : Int) := by omega
        have H2 : Hid (TxtI w b n W6 (((ls.map shortB).take ls.length).drop 0)) := by rw [List.drop_zero]; rw [HMJ.out] at HQ; exact HQ.out
        have HMM : Hid (ls.length ≤ ls.length) := by show ls.length ≤ ls.length; omega
        clear HQ hk HMJ
        go_wp2
        go_loopg [9] ls.length (fun k i wr => ∃ j2 : Nat, k = ls.length - j2 ∧ j2 ≤ ls.length ∧ i = .int .i64 j2 ∧ Hid (TxtI w b n wr (((ls.map shortB).take ls.length).drop j2)))
        case atStart => exact ⟨0, rfl, Nat.zero_le _, rfl, H2⟩
        case round =>
          clear H2
          obtain ⟨j2, hk2, hj2, rfl, HQ2⟩ := hrel
          obtain ⟨p, q, hp, hg, hb⟩ := HQ2.out
          have htk := stake_any wr p b n _ q
          have hll : (((ls.map shortB).take ls.length).drop j2).length = ls.length - j2 := by have := HMM.out; rw [List.length_drop, List.length_take, List.length_map]; omega
          by_cases hlt2 : j2 < ls.length
          · have hlt2' : (j2 : Int) < (ls.length : Int) := by omega
            have HJ2 : Hid (j2 < ls.length ∧ gk = ls.length - j2) := ⟨hlt2, hk2⟩
            have hlz : j2 < ls.length := by have := HMM.out; omega
            have hlzi : (j2 : Int) < (ls.length : Int) := by omega
            have hd : decide (0 < (((ls.map shortB).take ls.length).drop j2).length) = true := decide_eq_true (by omega)
            have hf : (((ls.map shortB).take ls.length).drop j2).getD 0 ⟨#[]⟩ = shortB (ls.getD j2 ⟨#[]⟩) := by
              rw [← short_at ls j2 hlz]
              simp [List.getD, List.getElem?_take, hlt2]
            rw [hd, hf, List.drop_drop] at htk
            obtain ⟨g, o, e1, -, hc1⟩ := (HL.out.grow hg).addr (by omega)
            have f1 : ∀ u, Grow w u → u.cell? ⟨g, o + j2, none⟩ = some (.string (ls.getD j2 ⟨#[]⟩)) := fun u hu => by
              obtain ⟨g', o', e', -, hc'⟩ := (HL.out.grow hu).addr (by omega)
              rw [e1] at e'
              injection e' with e'
              injection e' with eb eo
              subst eb eo
              exact hc' j2 hlz
            have hsz := hls (ls.getD j2 ⟨#[]⟩) (by simp only [List.getD, List.getElem?_eq_getElem hlz, Option.getD_some]; exact List.getElem_mem hlz)
            have hsh := fun u => short5_any (ls.getD j2 ⟨#[]⟩) u hsz
            generalize ls.getD j2 ⟨#[]⟩ = y at f1 hsh htk
            generalize shortB y = z at hsh htk
            have HP : Hid ((∀ i, p i → w.heap.size ≤ i) ∧ Grow w wr ∧ w.heap.size ≤ b) := ⟨hp, hg, hb⟩
            subst e1
            clear hc1 q hp hg hb HQ2 hd hf hk2 hsz hll
            go_wp2_with fail
            refine htk.mono ?_
            rintro e w3 ⟨rfl, q3, hu3⟩
            have HT3 : Hid (TxtI w b n w3 (((ls.map shortB).take ls.length).drop (j2 + 1))) := TxtI.to HP.out.1 HP.out.2.1 HP.out.2.2 q3 (fun i hi => .inl hi) hu3
            have f3 := f1 w3 (by obtain ⟨_, _, _, h, _⟩ := HT3.out; exact h)
            have hsh3 := hsh w3
            clear q3 hu3 htk f1 hsh
            go_wp2_with fail
            refine hsh3.mono ?_
            rintro e w4 ⟨rfl, rfl⟩
            clear f3 hsh3
            go_wp2
            go_roundg (ls.length - (j2 + 1))
            case measure => have := HJ2.out; omega
            case rel => exact ⟨j2 + 1, rfl, HJ2.out.1, by go_num, HT3⟩
          · have hlt2' : ¬ (j2 : Int) < (ls.length : Int) := by omega
            have hd : decide (0 < (((ls.map shortB).take ls.length).drop j2).length) = false := decide_eq_false (by omega)
            have hf : (((ls.map shortB).take ls.length).drop j2).getD 0 ⟨#[]⟩ = ⟨#[]⟩ := by
              rw [List.eq_nil_of_length_eq_zero (l := ((ls.map shortB).take ls.length).drop j2) (by omega)]; rfl
            rw [hd, hf] at htk
            have HP : Hid ((∀ i, p i → w.heap.size ≤ i) ∧ Grow w wr ∧ w.heap.size ≤ b) := ⟨hp, hg, hb⟩
            clear q hp hg hb HQ2 hd hf hk2 hll
            go_wp2_with fail
            refine htk.mono ?_
            rintro e w3 ⟨rfl, q3, hu3⟩
            have HG3 : Hid (Grow w w3) := UpdS.new HP.out.2.1 hu3 (fun i hi => hi.elim (HP.out.1 i) (fun e => by rw [e]; exact HP.out.2.2))
            clear q3 hu3 htk
            go_wp2_with fail
            refine (lives_any w3).mono ?_
            rintro e w4 ⟨rfl, g4⟩
            go_wp2
            go_ret
            exact ⟨rfl, HG3.out.trans g4⟩
      · have HMJ : Hid (min n j = n) := by show min n j = n; omega
        obtain ⟨W6, rfl⟩ : ∃ W6, W6 = wr := ⟨_, rfl⟩
        have hnl : ¬ (ls.length : Int) ≤ (n : Int) := by omega
        have hnl3 : (n : Int) ≤ (ls.length : Int) := by omega
        have hnl4 : n ≤ ls.length := by omega
        have H2 : Hid (TxtI w b n W6 (((ls.map shortB).take n).drop 0)) := by rw [List.drop_zero]; rw [HMJ.out] at HQ; exact HQ.out
        have HMM : Hid (n ≤ ls.length) := by show n ≤ ls.length; omega
        clear HQ hk HMJ
        go_wp2
        go_loopg [9] n (fun k i wr => ∃ j2 : Nat, k = n - j2 ∧ j2 ≤ n ∧ i = .int .i64 j2 ∧ Hid (TxtI w b n wr (((ls.map shortB).take n).drop j2)))
        case atStart => exact ⟨0, rfl, Nat.zero_le _, rfl, H2⟩
        case round =>
          clear H2
          obtain ⟨j2, hk2, hj2, rfl, HQ2⟩ := hrel
          obtain ⟨p, q, hp, hg, hb⟩ := HQ2.out
          have htk := stake_any wr p b n _ q
          have hll : (((ls.map shortB).take n).drop j2).length = n - j2 := by have := HMM.out; rw [List.length_drop, List.length_take, List.length_map]; omega
          by_cases hlt2 : j2 < n
          · have hlt2' : (j2 : Int) < (n : Int) := by omega
            have HJ2 : Hid (j2 < n ∧ gk = n - j2) := ⟨hlt2, hk2⟩
            have hlz : j2 < ls.length := by have := HMM.out; omega
            have hlzi : (j2 : Int) < (ls.length : Int) := by omega
            have hd : decide (0 < (((ls.map shortB).take n).drop j2).length) = true := decide_eq_true (by omega)
            have hf : (((ls.map shortB).take n).drop j2).getD 0 ⟨#[]⟩ = shortB (ls.getD j2 ⟨#[]⟩) := by
              rw [← short_at ls j2 hlz]
              simp [List.getD, List.getElem?_take, hlt2]
            rw [hd, hf, List.drop_drop] at htk
            obtain ⟨g, o, e1, -, hc1⟩ := (HL.out.grow hg).addr (by omega)
            have f1 : ∀ u, Grow w u → u.cell? ⟨g, o + j2, none⟩ = some (.string (ls.getD j2 ⟨#[]⟩)) := fun u hu => by
              obtain ⟨g', o', e', -, hc'⟩ := (HL.out.grow hu).addr (by omega)
              rw [e1] at e'
              injection e' with e'
              injection e' with eb eo
              subst eb eo
              exact hc' j2 hlz
            have hsz := hls (ls.getD j2 ⟨#[]⟩) (by simp only [List.getD, List.getElem?_eq_getElem hlz, Option.getD_some]; exact List.getElem_mem hlz)
            have hsh := fun u => short5_any (ls.getD j2 ⟨#[]⟩) u hsz
            generalize ls.getD j2 ⟨#[]⟩ = y at f1 hsh htk
            generalize shortB y = z at hsh htk
            have HP : Hid ((∀ i, p i → w.heap.size ≤ i) ∧ Grow w wr ∧ w.heap.size ≤ b) := ⟨hp, hg, hb⟩
            subst e1
            clear hc1 q hp hg hb HQ2 hd hf hk2 hsz hll
            go_wp2_with fail
            refine htk.mono ?_
            rintro e w3 ⟨rfl, q3, hu3⟩
            have HT3 : Hid (TxtI w b n w3 (((ls.map shortB).take n).drop (j2 + 1))) := TxtI.to HP.out.1 HP.out.2.1 HP.out.2.2 q3 (fun i hi => .inl hi) hu3
            have f3 := f1 w3 (by obtain ⟨_, _, _, h, _⟩ := HT3.out; exact h)
            have hsh3 := hsh w3
            clear q3 hu3 htk f1 hsh
            go_wp2_with fail
            refine hsh3.mono ?_
            rintro e w4 ⟨rfl, rfl⟩
            clear f3 hsh3
            go_wp2
            go_roundg (n - (j2 + 1))
            case measure => have := HJ2.out; omega
            case rel => exact ⟨j2 + 1, rfl, HJ2.out.1, by go_num, HT3⟩
          · have hlt2' : ¬ (j2 : Int) < (n : Int) := by omega
            have hd : decide (0 < (((ls.map shortB).take n).drop j2).length) = false := decide_eq_false (by omega)
            have hf : (((ls.map shortB).take n).drop j2).getD 0 ⟨#[]⟩ = ⟨#[]⟩ := by
              rw [List.eq_nil_of_length_eq_zero (l := ((ls.map shortB).take n).drop j2) (by omega)]; rfl
            rw [hd, hf] at htk
            have HP : Hid ((∀ i, p i → w.heap.size ≤ i) ∧ Grow w wr ∧ w.heap.size ≤ b) := ⟨hp, hg, hb⟩
            clear q hp hg hb HQ2 hd hf hk2 hll
            go_wp2_with fail
            refine htk.mono ?_
            rintro e w3 ⟨rfl, q3, hu3⟩
            have HG3 : Hid (Grow w w3) := UpdS.new HP.out.2.1 hu3 (fun i hi => hi.elim (HP.out.1 i) (fun e => by rw [e]; exact HP.out.2.2))
            clear q3 hu3 htk
            go_wp2_with fail
            refine (lives_any w3).mono ?_
            rintro e w4 ⟨rfl, g4⟩
            go_wp2
            go_ret
            exact ⟨rfl, HG3.out.trans g4⟩
end Go.Proofs.Ytmnaadbemlecpaa
