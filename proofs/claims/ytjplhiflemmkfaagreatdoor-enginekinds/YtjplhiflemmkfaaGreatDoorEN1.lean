/- engine: New, Load, and what both kinds of engines tell: contracts. -/
import Derived.Test.YtjplhiflemmkfaaGreatDoorEC5
namespace Go.Proofs.YtjplhiflemmkfaaGreatDoor
open Go.RowKit Go.Maps

/-- an engine around a core. -/
def EBox (w : World) (x : Nat) (t : TypeId) (c : Nat) : Prop := w.heap[x]? = some (.cells #[.iface t (.pointer (some ⟨c, 0, none⟩))] 85 (0, 0))
theorem EBox.below {w w' : World} {x : Nat} {t : TypeId} {c : Nat} (h : EBox w x t c) (hb : Below w.heap.size w w') : EBox w' x t c := Below.stay hb h
theorem around_ok (t : TypeId) (c : Nat) (w : World) : Calls Tryz.prog 48 #[.iface t (.pointer (some ⟨c, 0, none⟩)), .int .i64 0] w fun e w' => ∃ x, e = .returned (.tuple #[.pointer (some ⟨x, 0, none⟩), .int .i64 0]) ∧ EBox w' x t c ∧ Below w.heap.size w w' := by
  go_enter Tryz.func48, Tryz.ntmps48
  go_wp2
  go_ret2
  exact ⟨_, rfl, box_at _ _, (Below.refl _ w).alloc (Nat.le_refl _) _⟩
theorem around_no (v : Value) (f : Nat) (hf : f ≠ 0) (w : World) : Calls Tryz.prog 48 #[v, .int .i64 (f : Int)] w fun e w' => e = .returned (.tuple #[.pointer none, .int .i64 (f : Int)]) ∧ w' = w := by
  have hzi : ¬ ((f : Int) = 0) := by omega
  have hzb : ((f : Int) != 0) = true := by simp; omega
  go_enter Tryz.func48, Tryz.ntmps48
  go_wp2
  go_ret2
  exact ⟨rfl, rfl⟩
theorem ta_rr (a : Option Addr) (w : World) : (Instr.typeAssert (.iface 35 (.pointer a)) 83 35 true).run Tryz.prog w = .ok (.tuple #[.pointer a, .bool true]) w := by kernel_rfl
theorem ta_cr (a : Option Addr) (w : World) : (Instr.typeAssert (.iface 38 (.pointer a)) 83 35 true).run Tryz.prog w = .ok (.tuple #[.pointer none, .bool false]) w := by kernel_rfl
theorem ta_cc (a : Option Addr) (w : World) : (Instr.typeAssert (.iface 38 (.pointer a)) 83 38 true).run Tryz.prog w = .ok (.tuple #[.pointer a, .bool true]) w := by kernel_rfl
theorem enew_other (kind id base : Int) (av : Value) (h1 : kind ≠ 1) (h2 : kind ≠ 2) (w : World) : Calls Tryz.prog 7 #[.int .i64 kind, .int .i64 id, av, .int .i64 base] w fun e w' => e = .returned (.tuple #[.pointer none, .int .i64 3]) ∧ w' = w := by
  have k1 : (kind == 1) = false := by simpa using h1
  have k2 : (kind == 2) = false := by simpa using h2
  go_enter Tryz.func7, Tryz.ntmps7
  go_wp2
  go_ret2
  exact ⟨rfl, rfl⟩
theorem eload_other (kind id : Int) (bv : Value) (h1 : kind ≠ 1) (h2 : kind ≠ 2) (w : World) : Calls Tryz.prog 20 #[.int .i64 kind, .int .i64 id, bv] w fun e w' => e = .returned (.tuple #[.pointer none, .int .i64 3]) ∧ w' = w := by
  have k1 : (kind == 1) = false := by simpa using h1
  have k2 : (kind == 2) = false := by simpa using h2
  go_enter Tryz.func20, Tryz.ntmps20
  go_wp2
  go_ret2
  exact ⟨rfl, rfl⟩

set_option maxRecDepth 20000 in
set_option maxHeartbeats 1000000 in
theorem enew_r (id base : Int) (an : Option Addr) (nn cn : Nat) (ms : List Int) (hn : ms.length = nn) (hl : nn ≤ 1000000) (w : World) (hw : IntsR w an ms) :
    Calls Tryz.prog 7 #[.int .i64 1, .int .i64 id, .slice an nn cn, .int .i64 base] w fun e w' => (coreCheck id ms base ≠ 0 → e = .returned (.tuple #[.pointer none, .int .i64 ((coreCheck id ms base : Nat) : Int)])) ∧ (coreCheck id ms base = 0 → ∃ x c, e = .returned (.tuple #[.pointer (some ⟨x, 0, none⟩), .int .i64 0]) ∧ EBox w' x 35 c ∧ RNew w' c id ms base) ∧ Below w.heap.size w w' := by
  have CN := rnew_any id base an nn cn ms hn hl w hw
  obtain ⟨f, hf⟩ : ∃ f, coreCheck id ms base = f := ⟨_, rfl⟩
  rw [hf] at CN ⊢
  by_cases hz : f = 0
  · subst hz
    have C0 : Hid (Calls Tryz.prog 8 #[.int .i64 id, .slice an nn cn, .int .i64 base] w fun e w' => ∃ c, e = .returned (.tuple #[.pointer (some ⟨c, 0, none⟩), .int .i64 0]) ∧ RNew w' c id ms base ∧ Below w.heap.size w w') := hide (CN.mono (by rintro e w' ⟨_, k1, k2⟩; obtain ⟨c, k3, k4⟩ := k1 rfl; first | exact ⟨c, k3, k4.1, k2⟩ | exact ⟨c, k3, k4, k2⟩))
    clear CN hf hn hw
    go_enter Tryz.func7, Tryz.ntmps7
    go_wp2_with fail
    refine (unhide C0).mono ?_
    rintro e w1 ⟨c, rfl, h1, b1⟩
    have H1 := hide (And.intro h1 b1)
    clear C0 h1 b1
    go_wp2_with fail
    refine (around_ok 35 c w1).mono ?_
    rintro e w2 ⟨x, rfl, h2, b2⟩
    have R := hide (And.intro h2 (And.intro ((unhide H1).1.below b2) (below_far (unhide H1).2 b2)))
    clear H1 h2 b2
    go_wp2
    go_ret2
    first | exact ⟨fun h => absurd rfl h, fun _ => ⟨x, c, rfl, (unhide R).1, (unhide R).2.1⟩, (unhide R).2.2⟩ | exact ⟨⟨x, rfl, c, (unhide R).1, (unhide R).2.1⟩, (unhide R).2.2⟩
  · have C0 : Hid (Calls Tryz.prog 8 #[.int .i64 id, .slice an nn cn, .int .i64 base] w fun e w' => e = .returned (.tuple #[.pointer none, .int .i64 (f : Int)]) ∧ Below w.heap.size w w') := hide (CN.mono (by rintro e w' ⟨k0, _, k2⟩; exact ⟨k0 hz, k2⟩))
    have HZ := hide hz
    clear CN hf hn hw hz
    go_enter Tryz.func7, Tryz.ntmps7
    go_wp2_with fail
    refine (unhide C0).mono ?_
    rintro e w1 ⟨rfl, b1⟩
    have B1 := hide b1
    clear C0 b1
    go_wp2_with fail
    refine (around_no _ f (unhide HZ) w1).mono ?_
    rintro e w2 ⟨rfl, rfl⟩
    go_wp2
    go_ret2
    exact ⟨fun _ => rfl, fun h => absurd h (unhide HZ), unhide B1⟩
set_option maxRecDepth 20000 in
set_option maxHeartbeats 1000000 in
theorem eload_r (id : Int) (bv : Value) (R : World → Nat → Prop) (hR : ∀ w w' c, R w c → Below w.heap.size w w' → R w' c) (w : World) (hl : Calls Tryz.prog 24 #[.int .i64 id, bv] w fun e w' => ∃ c, e = .returned (.tuple #[.pointer (some ⟨c, 0, none⟩), .int .i64 0]) ∧ R w' c ∧ Below w.heap.size w w') :
    Calls Tryz.prog 20 #[.int .i64 1, .int .i64 id, bv] w fun e w' => ∃ x c, e = .returned (.tuple #[.pointer (some ⟨x, 0, none⟩), .int .i64 0]) ∧ EBox w' x 35 c ∧ R w' c ∧ Below w.heap.size w w' := by
  have C0 := hide hl
  have HR := hide hR
  clear hl hR
  go_enter Tryz.func20, Tryz.ntmps20
  go_wp2_with fail
  refine (unhide C0).mono ?_
  rintro e w1 ⟨c, rfl, h1, b1⟩
  have H1 := hide (And.intro h1 b1)
  clear C0 h1 b1
  go_wp2_with fail
  refine (around_ok 35 c w1).mono ?_
  rintro e w2 ⟨x, rfl, h2, b2⟩
  have R := hide (And.intro h2 (And.intro (unhide HR w1 w2 c (unhide H1).1 b2) (below_far (unhide H1).2 b2)))
  clear H1 h2 b2 HR
  go_wp2
  go_ret2
  exact ⟨x, c, rfl, (unhide R).1, (unhide R).2.1, (unhide R).2.2⟩
set_option maxRecDepth 20000 in
theorem ekind_r (x c : Nat) (w : World) (h : EBox w x 35 c) : Calls Tryz.prog 45 #[.pointer (some ⟨x, 0, none⟩)] w fun e w' => e = .returned (.int .i64 1) ∧ w' = w := by
  have x0 : w.cell? ⟨x, 0, none⟩ = some (.iface 35 (.pointer (some ⟨c, 0, none⟩))) := (cell_of_block h).trans rfl
  have CK : Hid (Calls Tryz.prog 100 #[.iface 35 (.pointer (some ⟨c, 0, none⟩))] w fun e w' => e = .returned (.int .i64 1) ∧ w' = w) := by
    apply hide
    have t1 := ta_rr (some ⟨c, 0, none⟩) w
    have t2 := ta_cr (some ⟨c, 0, none⟩) w
    have t3 := ta_cc (some ⟨c, 0, none⟩) w
    go_enter Tryz.func100, Tryz.ntmps100
    go_wp2
    go_ret
    exact ⟨rfl, rfl⟩
  clear h
  go_enter Tryz.func45, Tryz.ntmps45
  go_wp2_with fail
  refine (unhide CK).mono ?_
  rintro e w1 ⟨rfl, rfl⟩
  go_wp2
  go_ret
  exact ⟨rfl, rfl⟩
set_option maxRecDepth 20000 in
theorem ecommit_r (x c : Nat) (w : World) (h : EBox w x 35 c) (Q : Value → World → Prop) (hc : Calls Tryz.prog 39 #[.pointer (some ⟨c, 0, none⟩)] w fun e w' => ∃ v, e = .returned v ∧ Q v w') : Calls Tryz.prog 27 #[.pointer (some ⟨x, 0, none⟩)] w fun e w' => ∃ v, e = .returned v ∧ Q v w' := by
  have x0 : w.cell? ⟨x, 0, none⟩ = some (.iface 35 (.pointer (some ⟨c, 0, none⟩))) := (cell_of_block h).trans rfl
  have C := hide hc
  clear h hc
  go_enter Tryz.func27, Tryz.ntmps27
  go_wp2_with fail
  refine (unhide C).mono ?_
  rintro e w1 ⟨v, rfl, k1⟩
  have R := hide k1
  clear C k1
  go_wp2
  go_ret
  exact ⟨v, rfl, unhide R⟩
set_option maxRecDepth 20000 in
theorem erole_r (x c : Nat) (w : World) (h : EBox w x 35 c) (Q : Value → World → Prop) (hc : Calls Tryz.prog 40 #[.pointer (some ⟨c, 0, none⟩)] w fun e w' => ∃ v, e = .returned v ∧ Q v w') : Calls Tryz.prog 29 #[.pointer (some ⟨x, 0, none⟩)] w fun e w' => ∃ v, e = .returned v ∧ Q v w' := by
  have x0 : w.cell? ⟨x, 0, none⟩ = some (.iface 35 (.pointer (some ⟨c, 0, none⟩))) := (cell_of_block h).trans rfl
  have C := hide hc
  clear h hc
  go_enter Tryz.func29, Tryz.ntmps29
  go_wp2_with fail
  refine (unhide C).mono ?_
  rintro e w1 ⟨v, rfl, k1⟩
  have R := hide k1
  clear C k1
  go_wp2
  go_ret
  exact ⟨v, rfl, unhide R⟩
set_option maxRecDepth 20000 in
theorem esealed_r (x c : Nat) (w : World) (h : EBox w x 35 c) (Q : Value → World → Prop) (hc : Calls Tryz.prog 42 #[.pointer (some ⟨c, 0, none⟩)] w fun e w' => ∃ v, e = .returned v ∧ Q v w') : Calls Tryz.prog 33 #[.pointer (some ⟨x, 0, none⟩)] w fun e w' => ∃ v, e = .returned v ∧ Q v w' := by
  have x0 : w.cell? ⟨x, 0, none⟩ = some (.iface 35 (.pointer (some ⟨c, 0, none⟩))) := (cell_of_block h).trans rfl
  have C := hide hc
  clear h hc
  go_enter Tryz.func33, Tryz.ntmps33
  go_wp2_with fail
  refine (unhide C).mono ?_
  rintro e w1 ⟨v, rfl, k1⟩
  have R := hide k1
  clear C k1
  go_wp2
  go_ret
  exact ⟨v, rfl, unhide R⟩
set_option maxRecDepth 20000 in
theorem esave_r (x c : Nat) (w : World) (h : EBox w x 35 c) (Q : Value → World → Prop) (hc : Calls Tryz.prog 25 #[.pointer (some ⟨c, 0, none⟩)] w fun e w' => ∃ v, e = .returned v ∧ Q v w') : Calls Tryz.prog 21 #[.pointer (some ⟨x, 0, none⟩)] w fun e w' => ∃ v, e = .returned v ∧ Q v w' := by
  have x0 : w.cell? ⟨x, 0, none⟩ = some (.iface 35 (.pointer (some ⟨c, 0, none⟩))) := (cell_of_block h).trans rfl
  have C := hide hc
  clear h hc
  go_enter Tryz.func21, Tryz.ntmps21
  go_wp2_with fail
  refine (unhide C).mono ?_
  rintro e w1 ⟨v, rfl, k1⟩
  have R := hide k1
  clear C k1
  go_wp2
  go_ret
  exact ⟨v, rfl, unhide R⟩

set_option maxRecDepth 20000 in
set_option maxHeartbeats 1000000 in
theorem enew_c (id base : Int) (an : Option Addr) (nn cn : Nat) (ms : List Int) (hn : ms.length = nn) (hl : nn ≤ 1000000) (w : World) (hw : IntsR w an ms) :
    Calls Tryz.prog 7 #[.int .i64 2, .int .i64 id, .slice an nn cn, .int .i64 base] w fun e w' => (coreCheck id ms base ≠ 0 → e = .returned (.tuple #[.pointer none, .int .i64 ((coreCheck id ms base : Nat) : Int)])) ∧ (coreCheck id ms base = 0 → ∃ x c, e = .returned (.tuple #[.pointer (some ⟨x, 0, none⟩), .int .i64 0]) ∧ EBox w' x 38 c ∧ CNew w' c id ms base) ∧ Below w.heap.size w w' := by
  have CN := cnew_any id base an nn cn ms hn hl w hw
  obtain ⟨f, hf⟩ : ∃ f, coreCheck id ms base = f := ⟨_, rfl⟩
  rw [hf] at CN ⊢
  by_cases hz : f = 0
  · subst hz
    have C0 : Hid (Calls Tryz.prog 9 #[.int .i64 id, .slice an nn cn, .int .i64 base] w fun e w' => ∃ c, e = .returned (.tuple #[.pointer (some ⟨c, 0, none⟩), .int .i64 0]) ∧ CNew w' c id ms base ∧ Below w.heap.size w w') := hide (CN.mono (by rintro e w' ⟨_, k1, k2⟩; obtain ⟨c, k3, k4⟩ := k1 rfl; first | exact ⟨c, k3, k4.1, k2⟩ | exact ⟨c, k3, k4, k2⟩))
    clear CN hf hn hw
    go_enter Tryz.func7, Tryz.ntmps7
    go_wp2_with fail
    refine (unhide C0).mono ?_
    rintro e w1 ⟨c, rfl, h1, b1⟩
    have H1 := hide (And.intro h1 b1)
    clear C0 h1 b1
    go_wp2_with fail
    refine (around_ok 38 c w1).mono ?_
    rintro e w2 ⟨x, rfl, h2, b2⟩
    have R := hide (And.intro h2 (And.intro ((unhide H1).1.below b2) (below_far (unhide H1).2 b2)))
    clear H1 h2 b2
    go_wp2
    go_ret2
    first | exact ⟨fun h => absurd rfl h, fun _ => ⟨x, c, rfl, (unhide R).1, (unhide R).2.1⟩, (unhide R).2.2⟩ | exact ⟨⟨x, rfl, c, (unhide R).1, (unhide R).2.1⟩, (unhide R).2.2⟩
  · have C0 : Hid (Calls Tryz.prog 9 #[.int .i64 id, .slice an nn cn, .int .i64 base] w fun e w' => e = .returned (.tuple #[.pointer none, .int .i64 (f : Int)]) ∧ Below w.heap.size w w') := hide (CN.mono (by rintro e w' ⟨k0, _, k2⟩; exact ⟨k0 hz, k2⟩))
    have HZ := hide hz
    clear CN hf hn hw hz
    go_enter Tryz.func7, Tryz.ntmps7
    go_wp2_with fail
    refine (unhide C0).mono ?_
    rintro e w1 ⟨rfl, b1⟩
    have B1 := hide b1
    clear C0 b1
    go_wp2_with fail
    refine (around_no _ f (unhide HZ) w1).mono ?_
    rintro e w2 ⟨rfl, rfl⟩
    go_wp2
    go_ret2
    exact ⟨fun _ => rfl, fun h => absurd h (unhide HZ), unhide B1⟩
set_option maxRecDepth 20000 in
set_option maxHeartbeats 1000000 in
theorem eload_c (id : Int) (bv : Value) (R : World → Nat → Prop) (hR : ∀ w w' c, R w c → Below w.heap.size w w' → R w' c) (w : World) (hl : Calls Tryz.prog 22 #[.int .i64 id, bv] w fun e w' => ∃ c, e = .returned (.tuple #[.pointer (some ⟨c, 0, none⟩), .int .i64 0]) ∧ R w' c ∧ Below w.heap.size w w') :
    Calls Tryz.prog 20 #[.int .i64 2, .int .i64 id, bv] w fun e w' => ∃ x c, e = .returned (.tuple #[.pointer (some ⟨x, 0, none⟩), .int .i64 0]) ∧ EBox w' x 38 c ∧ R w' c ∧ Below w.heap.size w w' := by
  have C0 := hide hl
  have HR := hide hR
  clear hl hR
  go_enter Tryz.func20, Tryz.ntmps20
  go_wp2_with fail
  refine (unhide C0).mono ?_
  rintro e w1 ⟨c, rfl, h1, b1⟩
  have H1 := hide (And.intro h1 b1)
  clear C0 h1 b1
  go_wp2_with fail
  refine (around_ok 38 c w1).mono ?_
  rintro e w2 ⟨x, rfl, h2, b2⟩
  have R := hide (And.intro h2 (And.intro (unhide HR w1 w2 c (unhide H1).1 b2) (below_far (unhide H1).2 b2)))
  clear H1 h2 b2 HR
  go_wp2
  go_ret2
  exact ⟨x, c, rfl, (unhide R).1, (unhide R).2.1, (unhide R).2.2⟩
set_option maxRecDepth 20000 in
theorem ekind_c (x c : Nat) (w : World) (h : EBox w x 38 c) : Calls Tryz.prog 45 #[.pointer (some ⟨x, 0, none⟩)] w fun e w' => e = .returned (.int .i64 2) ∧ w' = w := by
  have x0 : w.cell? ⟨x, 0, none⟩ = some (.iface 38 (.pointer (some ⟨c, 0, none⟩))) := (cell_of_block h).trans rfl
  have CK : Hid (Calls Tryz.prog 100 #[.iface 38 (.pointer (some ⟨c, 0, none⟩))] w fun e w' => e = .returned (.int .i64 2) ∧ w' = w) := by
    apply hide
    have t1 := ta_rr (some ⟨c, 0, none⟩) w
    have t2 := ta_cr (some ⟨c, 0, none⟩) w
    have t3 := ta_cc (some ⟨c, 0, none⟩) w
    go_enter Tryz.func100, Tryz.ntmps100
    go_wp2
    go_ret
    exact ⟨rfl, rfl⟩
  clear h
  go_enter Tryz.func45, Tryz.ntmps45
  go_wp2_with fail
  refine (unhide CK).mono ?_
  rintro e w1 ⟨rfl, rfl⟩
  go_wp2
  go_ret
  exact ⟨rfl, rfl⟩
set_option maxRecDepth 20000 in
theorem ecommit_c (x c : Nat) (w : World) (h : EBox w x 38 c) (Q : Value → World → Prop) (hc : Calls Tryz.prog 28 #[.pointer (some ⟨c, 0, none⟩)] w fun e w' => ∃ v, e = .returned v ∧ Q v w') : Calls Tryz.prog 27 #[.pointer (some ⟨x, 0, none⟩)] w fun e w' => ∃ v, e = .returned v ∧ Q v w' := by
  have x0 : w.cell? ⟨x, 0, none⟩ = some (.iface 38 (.pointer (some ⟨c, 0, none⟩))) := (cell_of_block h).trans rfl
  have C := hide hc
  clear h hc
  go_enter Tryz.func27, Tryz.ntmps27
  go_wp2_with fail
  refine (unhide C).mono ?_
  rintro e w1 ⟨v, rfl, k1⟩
  have R := hide k1
  clear C k1
  go_wp2
  go_ret
  exact ⟨v, rfl, unhide R⟩
set_option maxRecDepth 20000 in
theorem erole_c (x c : Nat) (w : World) (h : EBox w x 38 c) (Q : Value → World → Prop) (hc : Calls Tryz.prog 30 #[.pointer (some ⟨c, 0, none⟩)] w fun e w' => ∃ v, e = .returned v ∧ Q v w') : Calls Tryz.prog 29 #[.pointer (some ⟨x, 0, none⟩)] w fun e w' => ∃ v, e = .returned v ∧ Q v w' := by
  have x0 : w.cell? ⟨x, 0, none⟩ = some (.iface 38 (.pointer (some ⟨c, 0, none⟩))) := (cell_of_block h).trans rfl
  have C := hide hc
  clear h hc
  go_enter Tryz.func29, Tryz.ntmps29
  go_wp2_with fail
  refine (unhide C).mono ?_
  rintro e w1 ⟨v, rfl, k1⟩
  have R := hide k1
  clear C k1
  go_wp2
  go_ret
  exact ⟨v, rfl, unhide R⟩
set_option maxRecDepth 20000 in
theorem esealed_c (x c : Nat) (w : World) (h : EBox w x 38 c) (Q : Value → World → Prop) (hc : Calls Tryz.prog 34 #[.pointer (some ⟨c, 0, none⟩)] w fun e w' => ∃ v, e = .returned v ∧ Q v w') : Calls Tryz.prog 33 #[.pointer (some ⟨x, 0, none⟩)] w fun e w' => ∃ v, e = .returned v ∧ Q v w' := by
  have x0 : w.cell? ⟨x, 0, none⟩ = some (.iface 38 (.pointer (some ⟨c, 0, none⟩))) := (cell_of_block h).trans rfl
  have C := hide hc
  clear h hc
  go_enter Tryz.func33, Tryz.ntmps33
  go_wp2_with fail
  refine (unhide C).mono ?_
  rintro e w1 ⟨v, rfl, k1⟩
  have R := hide k1
  clear C k1
  go_wp2
  go_ret
  exact ⟨v, rfl, unhide R⟩
set_option maxRecDepth 20000 in
theorem esave_c (x c : Nat) (w : World) (h : EBox w x 38 c) (Q : Value → World → Prop) (hc : Calls Tryz.prog 23 #[.pointer (some ⟨c, 0, none⟩)] w fun e w' => ∃ v, e = .returned v ∧ Q v w') : Calls Tryz.prog 21 #[.pointer (some ⟨x, 0, none⟩)] w fun e w' => ∃ v, e = .returned v ∧ Q v w' := by
  have x0 : w.cell? ⟨x, 0, none⟩ = some (.iface 38 (.pointer (some ⟨c, 0, none⟩))) := (cell_of_block h).trans rfl
  have C := hide hc
  clear h hc
  go_enter Tryz.func21, Tryz.ntmps21
  go_wp2_with fail
  refine (unhide C).mono ?_
  rintro e w1 ⟨v, rfl, k1⟩
  have R := hide k1
  clear C k1
  go_wp2
  go_ret
  exact ⟨v, rfl, unhide R⟩
end Go.Proofs.YtjplhiflemmkfaaGreatDoor
