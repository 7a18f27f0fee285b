/-
  The walks of a partition's Pin, Unpin, Get, Put. Conditions: each theorem's own.
-/
import Derived.Test.YtgpigllimoafaaaPrtO
import Derived.Deep.CutRange
import Derived.Laws.EntriesVeiled
namespace Go.Proofs.Ytgpigllimoafaaa
open Go.RowKit
set_option linter.unusedVariables false
set_option linter.unusedSimpArgs false

theorem onP_yes {q : Int} {f : FS → FS × Int} {L : List FS} {z : Nat} (h : fnd q L < L.length) (hz : fnd q L = z) : onP q f L = (L.set z (f (L.getD z FS.empty)).1, (f (L.getD z FS.empty)).2) := by
  subst hz; exact if_pos h
theorem onP_no {q : Int} {f : FS → FS × Int} {L : List FS} (h : ¬ fnd q L < L.length) : onP q f L = (L, 6) := if_neg h
theorem getP_yes {q off n : Int} {L : List FS} {z : Nat} (h : fnd q L < L.length) (hz : fnd q L = z) : getP q off n L = (L.set z (getS (L.getD z FS.empty) off n).1, (getS (L.getD z FS.empty) off n).2) := by
  subst hz; exact if_pos h
theorem getP_no {q off n : Int} {L : List FS} (h : ¬ fnd q L < L.length) : getP q off n L = (L, [], 6) := if_neg h
theorem meth_pin (b x : Nat) (w : World) : (method 232 78 (.pointer (some ⟨b, x, none⟩)) "Pin").run Try.prog w = .ok (44, .pointer (some ⟨b, x, none⟩)) w := by kernel_rfl
theorem meth_unpin (b x : Nat) (w : World) : (method 232 78 (.pointer (some ⟨b, x, none⟩)) "Unpin").run Try.prog w = .ok (47, .pointer (some ⟨b, x, none⟩)) w := by kernel_rfl
set_option maxHeartbeats 1000000 in
theorem putc_any (s : FS) (hs : s.Ok) (w : World) (b x g p1 p2 : Nat) (v : Value) (off : Int) (ys : List Int) (t : Nat → Prop) (hF : FrX w b x s) (ho : (Lit.int .i64 off).wf = true) (hy : RdV (Value.int .u8) 0 t w v ys) (hg : VarAt w g [.func (Fn.func 45) #[] #[]]) (h1 : VarAt w p1 [.int .i64 off]) (h2 : VarAt w p2 [v]) :
    Calls Try.prog 46 #[.pointer (some ⟨b, x, none⟩), .pointer (some ⟨g, 0, none⟩), .pointer (some ⟨p1, 0, none⟩), .pointer (some ⟨p2, 0, none⟩)] w fun e w' => e = .returned (.int .i64 (putS s off ys).2) ∧ FrX w' b x (putS s off ys).1 ∧ UpdO b x 37 w w' := by
  have hl := oputS_any s hs w b x hF off v ys t hy ho
  generalize putS s off ys = T at hl ⊢
  obtain ⟨s', E⟩ := T
  have c0 := (hg.2 0 (by show 0 < 1; omega)).1
  have c1 := (h1.2 0 (by show 0 < 1; omega)).1
  have c2 := (h2.2 0 (by show 0 < 1; omega)).1
  simp only [List.getElem?_cons_zero] at c0 c1 c2
  obtain ⟨a, c, hv⟩ := hy.shape
  generalize ys.length = zn at hv
  subst hv
  clear hF hg h1 h2 hs hy
  go_enter Try.func46, Try.ntmps46
  go_wp2_with fail
  refine hl.mono ?_
  rintro e w1 ⟨rfl, F1, u1⟩
  have HF : Hid (FrX w1 b x s' ∧ UpdO b x 37 w w1) := ⟨F1, u1⟩
  clear hl F1 u1
  go_wp2
  go_ret
  exact ⟨rfl, HF.out⟩

set_option maxRecDepth 20000 in
set_option maxHeartbeats 1000000 in
theorem ask_pin (w : World) (P b o : Nat) (L : List FS) (h : Nat) (k : PtO w P b o L h) (hk : PtOk L h) (q : Int) : Calls Try.prog 43 #[.pointer (some ⟨P, 0, none⟩), .int .i64 q, .func (Fn.methodOf 78 "Pin") #[] #[]] w fun e w' => e = .returned (.int .i64 (onP q pinS L).2) ∧ PtO w' P b o (onP q pinS L).1 h ∧ UpdS (fun i => i = P ∨ i = b) w w' := by
  have hfi := find_any w P b o L h k hk.2.2 q
  have HK : Hid (PtO w P b o L h) := k
  obtain ⟨⟨c0, -⟩, -⟩ := k.two
  by_cases hf : fnd q L < L.length
  · rw [(fnd_yes hf).1, (fnd_yes hf).2] at hfi
    obtain ⟨z, hz⟩ : ∃ z, fnd q L = z := ⟨_, rfl⟩
    rw [onP_yes hf hz]
    rw [hz] at hfi hf
    have hl := opinS_any _ (hk.at hf) w b _ (k.2.2.2 z hf)
    generalize pinS (L.getD z FS.empty) = T at hl ⊢
    obtain ⟨s', E⟩ := T
    have HZ : Hid (z < L.length) := hf
    have hmeth := meth_pin
    have hle : (z : Int) < (L.length : Int) := by omega
    clear hf hz k hk
    go_enter Try.func43, Try.ntmps43
    go_wp2_with fail
    refine hfi.mono ?_
    rintro e w1 ⟨rfl, rfl⟩
    go_wp2_with fail
    refine hl.mono ?_
    rintro e w2 ⟨rfl, F2, u2⟩
    have HF : Hid (PtO w2 P b o (L.set z s') h ∧ UpdS (fun i => i = P ∨ i = b) w w2) := ⟨HK.out.frame HZ.out F2 u2, upd_p u2⟩
    clear F2 u2 hl hfi c0
    go_wp2
    go_ret
    exact ⟨rfl, HF.out⟩
  · rw [(fnd_no hf).1, (fnd_no hf).2] at hfi
    rw [onP_no hf]
    clear hf k hk
    go_enter Try.func43, Try.ntmps43
    go_wp2_with fail
    refine hfi.mono ?_
    rintro e w1 ⟨rfl, rfl⟩
    go_wp2
    go_ret
    exact ⟨rfl, HK.out, UpdS.refl _ _⟩
set_option maxHeartbeats 1000000 in
theorem ppin_any (w : World) (P b o : Nat) (L : List FS) (h : Nat) (k : PtO w P b o L h) (hk : PtOk L h) (q : Int) : Calls Try.prog 25 #[.pointer (some ⟨P, 0, none⟩), .int .i64 q] w fun e w' => e = .returned (.int .i64 (onP q pinS L).2) ∧ PtO w' P b o (onP q pinS L).1 h ∧ UpdS (fun i => i = P ∨ i = b) w w' := by
  have ha := ask_pin w P b o L h k hk q
  generalize onP q pinS L = T at ha ⊢
  obtain ⟨L', E⟩ := T
  have hmf : ∀ (fn : Fn) (first cap : Array Value) (w : World), (Instr.makeFunc fn first cap).run Try.prog w = .ok (.func fn first cap) w := fun _ _ _ _ => rfl
  clear k hk
  go_enter Try.func25, Try.ntmps25
  go_wp2_with fail
  refine ha.mono ?_
  rintro e w2 ⟨rfl, k2, u2⟩
  have HF : Hid (PtO w2 P b o L' h ∧ UpdS (fun i => i = P ∨ i = b) w w2) := ⟨k2, u2⟩
  clear k2 u2 ha
  go_wp2
  go_ret
  exact ⟨rfl, HF.out⟩
set_option maxRecDepth 20000 in
set_option maxHeartbeats 1000000 in
theorem ask_unpin (w : World) (P b o : Nat) (L : List FS) (h : Nat) (k : PtO w P b o L h) (hk : PtOk L h) (q : Int) : Calls Try.prog 43 #[.pointer (some ⟨P, 0, none⟩), .int .i64 q, .func (Fn.methodOf 78 "Unpin") #[] #[]] w fun e w' => e = .returned (.int .i64 (onP q unpinS L).2) ∧ PtO w' P b o (onP q unpinS L).1 h ∧ UpdS (fun i => i = P ∨ i = b) w w' := by
  have hfi := find_any w P b o L h k hk.2.2 q
  have HK : Hid (PtO w P b o L h) := k
  obtain ⟨⟨c0, -⟩, -⟩ := k.two
  by_cases hf : fnd q L < L.length
  · rw [(fnd_yes hf).1, (fnd_yes hf).2] at hfi
    obtain ⟨z, hz⟩ : ∃ z, fnd q L = z := ⟨_, rfl⟩
    rw [onP_yes hf hz]
    rw [hz] at hfi hf
    have hl := ounpinS_any _ (hk.at hf) w b _ (k.2.2.2 z hf)
    generalize unpinS (L.getD z FS.empty) = T at hl ⊢
    obtain ⟨s', E⟩ := T
    have HZ : Hid (z < L.length) := hf
    have hmeth := meth_unpin
    have hle : (z : Int) < (L.length : Int) := by omega
    clear hf hz k hk
    go_enter Try.func43, Try.ntmps43
    go_wp2_with fail
    refine hfi.mono ?_
    rintro e w1 ⟨rfl, rfl⟩
    go_wp2_with fail
    refine hl.mono ?_
    rintro e w2 ⟨rfl, F2, u2⟩
    have HF : Hid (PtO w2 P b o (L.set z s') h ∧ UpdS (fun i => i = P ∨ i = b) w w2) := ⟨HK.out.frame HZ.out F2 u2, upd_p u2⟩
    clear F2 u2 hl hfi c0
    go_wp2
    go_ret
    exact ⟨rfl, HF.out⟩
  · rw [(fnd_no hf).1, (fnd_no hf).2] at hfi
    rw [onP_no hf]
    clear hf k hk
    go_enter Try.func43, Try.ntmps43
    go_wp2_with fail
    refine hfi.mono ?_
    rintro e w1 ⟨rfl, rfl⟩
    go_wp2
    go_ret
    exact ⟨rfl, HK.out, UpdS.refl _ _⟩
set_option maxHeartbeats 1000000 in
theorem punpin_any (w : World) (P b o : Nat) (L : List FS) (h : Nat) (k : PtO w P b o L h) (hk : PtOk L h) (q : Int) : Calls Try.prog 28 #[.pointer (some ⟨P, 0, none⟩), .int .i64 q] w fun e w' => e = .returned (.int .i64 (onP q unpinS L).2) ∧ PtO w' P b o (onP q unpinS L).1 h ∧ UpdS (fun i => i = P ∨ i = b) w w' := by
  have ha := ask_unpin w P b o L h k hk q
  generalize onP q unpinS L = T at ha ⊢
  obtain ⟨L', E⟩ := T
  have hmf : ∀ (fn : Fn) (first cap : Array Value) (w : World), (Instr.makeFunc fn first cap).run Try.prog w = .ok (.func fn first cap) w := fun _ _ _ _ => rfl
  clear k hk
  go_enter Try.func28, Try.ntmps28
  go_wp2_with fail
  refine ha.mono ?_
  rintro e w2 ⟨rfl, k2, u2⟩
  have HF : Hid (PtO w2 P b o L' h ∧ UpdS (fun i => i = P ∨ i = b) w w2) := ⟨k2, u2⟩
  clear k2 u2 ha
  go_wp2
  go_ret
  exact ⟨rfl, HF.out⟩
set_option maxRecDepth 20000 in
set_option maxHeartbeats 1000000 in
theorem ask_put (w : World) (P b o : Nat) (L : List FS) (h : Nat) (k : PtO w P b o L h) (hk : PtOk L h) (q off : Int) (g p1 p2 : Nat) (v : Value) (ys : List Int) (t : Nat → Prop) (ho : (Lit.int .i64 off).wf = true) (hy : RdV (Value.int .u8) 0 t w v ys) (hg : VarAt w g [.func (Fn.func 45) #[] #[]]) (h1 : VarAt w p1 [.int .i64 off]) (h2 : VarAt w p2 [v]) :
    Calls Try.prog 43 #[.pointer (some ⟨P, 0, none⟩), .int .i64 q, .func (Fn.func 46) #[] #[.pointer (some ⟨g, 0, none⟩), .pointer (some ⟨p1, 0, none⟩), .pointer (some ⟨p2, 0, none⟩)]] w fun e w' => e = .returned (.int .i64 (onP q (fun s => putS s off ys) L).2) ∧ PtO w' P b o (onP q (fun s => putS s off ys) L).1 h ∧ UpdS (fun i => i = P ∨ i = b) w w' := by
  have hfi := find_any w P b o L h k hk.2.2 q
  have HK : Hid (PtO w P b o L h) := k
  obtain ⟨⟨c0, -⟩, -⟩ := k.two
  by_cases hf : fnd q L < L.length
  · rw [(fnd_yes hf).1, (fnd_yes hf).2] at hfi
    obtain ⟨z, hz⟩ : ∃ z, fnd q L = z := ⟨_, rfl⟩
    rw [onP_yes hf hz]
    rw [hz] at hfi hf
    have hl := putc_any _ (hk.at hf) w b (o + z * 37) g p1 p2 v off ys t (k.2.2.2 z hf) ho hy hg h1 h2
    simp only []
    generalize putS (L.getD z FS.empty) off ys = T at hl ⊢
    obtain ⟨s', E⟩ := T
    have HZ : Hid (z < L.length) := hf
    have hle : (z : Int) < (L.length : Int) := by omega
    clear hf hz k hk hy hg h1 h2
    go_enter Try.func43, Try.ntmps43
    go_wp2_with fail
    refine hfi.mono ?_
    rintro e w1 ⟨rfl, rfl⟩
    go_wp2_with fail
    refine hl.mono ?_
    rintro e w2 ⟨rfl, F2, u2⟩
    have HF : Hid (PtO w2 P b o (L.set z s') h ∧ UpdS (fun i => i = P ∨ i = b) w w2) := ⟨HK.out.frame HZ.out F2 u2, upd_p u2⟩
    clear F2 u2 hl hfi c0
    go_wp2
    go_ret
    exact ⟨rfl, HF.out⟩
  · rw [(fnd_no hf).1, (fnd_no hf).2] at hfi
    rw [onP_no hf]
    clear hf k hk hy hg h1 h2
    go_enter Try.func43, Try.ntmps43
    go_wp2_with fail
    refine hfi.mono ?_
    rintro e w1 ⟨rfl, rfl⟩
    go_wp2
    go_ret
    exact ⟨rfl, HK.out, UpdS.refl _ _⟩

set_option maxHeartbeats 1000000 in
theorem pput_any (w : World) (P b o : Nat) (L : List FS) (h : Nat) (k : PtO w P b o L h) (hk : PtOk L h) (q off : Int) (v : Value) (ys : List Int) (t : Nat → Prop) (ho : (Lit.int .i64 off).wf = true) (hy : RdV (Value.int .u8) 0 t w v ys) : Calls Try.prog 27 #[.pointer (some ⟨P, 0, none⟩), .int .i64 q, .int .i64 off, v] w fun e w' => e = .returned (.int .i64 (onP q (fun s => putS s off ys) L).2) ∧ PtO w' P b o (onP q (fun s => putS s off ys) L).1 h ∧ UpdS (fun i => i = P ∨ i = b) w w' := by
  have hmf : ∀ (fn : Fn) (first cap : Array Value) (w : World), (Instr.makeFunc fn first cap).run Try.prog w = .ok (.func fn first cap) w := fun _ _ _ _ => rfl
  obtain ⟨W, hW⟩ : ∃ W, ((w.alloc (.cells #[.int .i64 off] 3)).alloc (.cells #[v] 42)).alloc (.cells #[.func (Fn.func 45) #[] #[]] 77) = W := ⟨_, rfl⟩
  obtain ⟨X, hX⟩ : ∃ X, w.heap.size = X := ⟨_, rfl⟩
  have g0 : Grow w W := by rw [← hW]; exact (((Grow.refl w).alloc _).alloc _).alloc _
  have V1 : VarAt W X [.int .i64 off] := by rw [← hW, ← hX]; exact ((VarAt.new w [.int .i64 off] 3).old _).old _
  have V2 : VarAt W (X + 1) [v] := by rw [← hW, ← hX]; exact (VarAt.new2 w _ [v] 42).old _
  have V3 : VarAt W (X + 1 + 1) [.func (Fn.func 45) #[] #[]] := by rw [← hW, ← hX]; exact VarAt.new3 w _ _ [.func (Fn.func 45) #[] #[]] 77
  have ha := ask_put W P b o L h (k.grow g0) hk q off (X + 1 + 1) X (X + 1) v ys t ho (hy.grow g0) V3 V1 V2
  have HW : Hid (Grow w W) := g0
  generalize onP q (fun s => putS s off ys) L = T at ha ⊢
  obtain ⟨L', E⟩ := T
  obtain ⟨a, c, hv⟩ := hy.shape
  generalize ys.length = zn at hv
  subst hv
  clear k hk V1 V2 V3 g0 hy
  go_enter Try.func27, Try.ntmps27
  go_upto_region 2 with fail
  (try rw [hW])
  (try rw [hX])
  clear hW hX
  go_wp2_with fail
  refine ha.mono ?_
  rintro e w2 ⟨rfl, k2, u2⟩
  have HF : Hid (PtO w2 P b o L' h ∧ UpdS (fun i => i = P ∨ i = b) w w2) := ⟨k2, UpdS.trans HW.out.s u2⟩
  clear k2 u2 ha
  go_wp2
  go_ret
  exact ⟨rfl, HF.out⟩
end Go.Proofs.Ytgpigllimoafaaa
