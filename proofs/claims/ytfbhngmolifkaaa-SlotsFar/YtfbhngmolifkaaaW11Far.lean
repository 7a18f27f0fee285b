/-
  The walk of SlotsFar. Conditions: the theorem's own.
-/
import Derived.Test.YtfbhngmolifkaaaSloDoc
namespace Go.Proofs.Ytfbhngmolifkaaa
open Go.RowKit
set_option linter.unusedVariables false
set_option linter.unusedSimpArgs false

set_option maxRecDepth 16000 in
set_option maxHeartbeats 4000000 in
theorem slotsFar_walk (n from_ to i : Int) (w : World) (hn : (Lit.int .i64 n).wf = true) (hfrom_ : (Lit.int .i64 from_).wf = true) (hto : (Lit.int .i64 to).wf = true) (hi : (Lit.int .i64 i).wf = true) :
    Calls Try.prog 6 #[.int .i64 n, .int .i64 from_, .int .i64 to, .int .i64 i] w fun e w' => e = .returned (.bool true) ∧ Grow w w' := by
  have har := around_any n 16 w hn (by omega) (by omega)
  have hab := around_bd n 16 (by omega)
  generalize around n 16 = r at har hab
  obtain ⟨k, hkr⟩ : ∃ k, k = 1 + r := ⟨_, rfl⟩
  have hw1 : IntKind.i64.wrap (1 + r) = k := by rw [IntKind.wrap_i64]; omega
  have h1 : 1 ≤ k := by omega
  have h2 : k ≤ 16 := by omega
  clear hkr hab
  have ha_a := fun u : World => around_any from_ 1099511627777 u hfrom_ (by omega) (by omega)
  obtain ⟨a0, a1⟩ := around_bd from_ 1099511627777 (by omega)
  generalize around from_ 1099511627777 = a at ha_a a0 a1
  have ha_c := fun u : World => around_any to 1099511627777 u hto (by omega) (by omega)
  obtain ⟨c0, c1⟩ := around_bd to 1099511627777 (by omega)
  generalize around to 1099511627777 = c at ha_c c0 c1
  have ha_t := fun u : World => around_any i k u hi (by omega) (by omega)
  obtain ⟨t0, t1⟩ := around_bd i k (by omega)
  generalize around i k = t at ha_t t0 t1
  go_enter Try.func6, Try.ntmps6
  go_wp2_with fail
  refine har.mono ?_
  rintro e w1 ⟨rfl, rfl⟩
  clear har
  go_wp2_with fail
  refine (new_yes k w h1 h2).mono ?_
  rintro e W1 ⟨b, rfl, s1, g1⟩
  have HS : Hid (SAt W1 b k) := s1
  have HG : Hid (Grow w W1) := g1
  clear s1 g1
  go_wp2_with fail
  refine (ha_a W1).mono ?_
  rintro e w1 ⟨rfl, rfl⟩
  go_wp2_with fail
  refine (ha_c W1).mono ?_
  rintro e w1 ⟨rfl, rfl⟩
  go_wp2_with fail
  refine (ha_t W1).mono ?_
  rintro e w1 ⟨rfl, rfl⟩
  clear ha_a ha_c ha_t
  have hcn := count_any W1 b k HS.out a c t h1 h2 a0 (by omega) c0 (by omega) t0 t1
  obtain ⟨x, hxe⟩ : ∃ x, x = c - a := ⟨_, rfl⟩
  have hcw : IntKind.i64.wrap (c - a) = x := by rw [IntKind.wrap_i64]; omega
  have hne : (k == 0) = false := by rw [beq_eq_false_iff_ne]; omega
  by_cases hac : a ≤ c
  · rw [cnt_far h1 h2 a c t t0 t1 hac, ← hxe] at hcn
    have hx0 : 0 ≤ x := by omega
    obtain ⟨hm0, hm1⟩ := own_bd (t := x) h1
    have hq0 : 0 ≤ (x) / k := Int.ediv_nonneg hx0 (by omega)
    have hq1 : (x) / k ≤ x := Int.ediv_le_self _ hx0
    have hrc := fun u : World => rcount_any u k a (a + (x) % k) t h1 h2 a0 (by omega) (by omega) (by omega) t0 t1
    rw [show a + (x) % k - a = (x) % k from by omega] at hrc
    have htb := tic_bd k t a ((x) % k).toNat
    have hw2 : IntKind.i64.wrap ((x) / k) = (x) / k := by rw [IntKind.wrap_i64]; omega
    have hw3 : IntKind.i64.wrap ((x) % k) = (x) % k := by rw [IntKind.wrap_i64]; omega
    have hw4 : IntKind.i64.wrap (a + (x) % k) = a + (x) % k := by rw [IntKind.wrap_i64]; omega
    have hw5 : IntKind.i64.wrap ((x) / k + tic k t a ((x) % k).toNat) = (x) / k + tic k t a ((x) % k).toNat := by rw [IntKind.wrap_i64]; omega
    generalize tic k t a ((x) % k).toNat = y at *
    have hx1 : x ≤ 2000000000000 := by omega
    have hn1 : ¬ k = 0 := by omega
    have htm : Int.tmod x k = x % k := Int.tmod_eq_emod_of_nonneg hx0
    have htd : Int.tdiv x k = x / k := Int.tdiv_eq_ediv_of_nonneg hx0
    clear hm0 hm1 hq0 hq1 htb hxe
    go_wp2_with fail
    refine hcn.mono ?_
    rintro e w2 ⟨rfl, g2⟩
    have HG2 : Hid (Grow w w2) := HG.out.trans g2
    clear g2 hcn
    go_wp2_with fail
    refine (hrc w2).mono ?_
    rintro e w3 ⟨rfl, rfl⟩
    clear hrc
    go_wp2_with fail
    refine (lives_any w2).mono ?_
    rintro e w5 ⟨rfl, g5⟩
    go_wp2
    go_ret
    exact ⟨rfl, HG2.out.trans g5⟩
  · rw [cnt_none h1 (by omega)] at hcn
    have hx0 : ¬ 0 ≤ x := by omega
    have hx1 : x ≤ 0 := by omega
    have hrc := fun u : World => rcount_any u k a a t h1 h2 a0 (by omega) (by omega) (by omega) t0 t1
    rw [show (a - a).toNat = 0 from by omega, show tic k t a 0 = 0 from rfl] at hrc
    clear hxe
    go_wp2_with fail
    refine hcn.mono ?_
    rintro e w2 ⟨rfl, g2⟩
    have HG2 : Hid (Grow w w2) := HG.out.trans g2
    clear g2 hcn
    go_wp2_with fail
    refine (hrc w2).mono ?_
    rintro e w3 ⟨rfl, rfl⟩
    clear hrc
    go_wp2_with fail
    refine (lives_any w2).mono ?_
    rintro e w5 ⟨rfl, g5⟩
    go_wp2
    go_ret
    exact ⟨rfl, HG2.out.trans g5⟩
end Go.Proofs.Ytfbhngmolifkaaa
