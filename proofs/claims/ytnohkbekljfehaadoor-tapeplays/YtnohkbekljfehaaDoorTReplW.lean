/- The walk of TapeReplaced. -/
import Derived.Test.YtnohkbekljfehaaDoorTKnown
namespace Go.Proofs.YtnohkbekljfehaaDoor
open Go.RowKit

theorem crash_synced (s : St) (pick : Int) (h : s.syn = s.bs.length) : s.kept pick = 0 ∧ s.crash pick = { s with left := 0, dead := false } := by
  have e : s.kept pick = 0 := by
    unfold St.kept
    rw [h, show ((s.bs.length : Int) - s.bs.length + 1) = 1 by omega, Int.emod_one]; rfl
  refine ⟨e, ?_⟩
  unfold St.crash
  rw [e, Nat.add_zero, h, List.take_length]
theorem append_ok (s : St) (b : List Nat) (h1 : s.dead = false) (h2 : s.bs.length + b.length ≤ s.room) (h3 : s.left ≤ 0) : s.append b = (0, { s with bs := s.bs ++ b, ops := s.ops + 1 }) := by
  have hb : s.begin (s.bs.length + b.length) = (0, { s with ops := s.ops + 1 }) := by
    unfold St.begin
    rw [if_neg (by simp [h1]), if_neg (by omega), if_neg (by omega), if_neg (by omega)]
  simp only [St.append, hb]; rfl
theorem sync_ok (s : St) (h1 : s.dead = false) (h2 : s.bs.length ≤ s.room) (h3 : s.left ≤ 0) : s.sync = (0, { s with syn := s.bs.length, ops := s.ops + 1 }) := by
  have hb : s.begin s.bs.length = (0, { s with ops := s.ops + 1 }) := by
    unfold St.begin
    rw [if_neg (by simp [h1]), if_neg (by omega), if_neg (by omega), if_neg (by omega)]
  simp only [St.sync, hb]; rfl
theorem replace_ok (s : St) (b : List Nat) (h1 : s.dead = false) (h2 : b.length ≤ s.room) (h3 : s.left ≤ 0) : s.replace b = (0, { s with bs := b, syn := b.length, ops := s.ops + 1 }) := by
  have hb : s.begin b.length = (0, { s with ops := s.ops + 1 }) := by
    unfold St.begin
    rw [if_neg (by simp [h1]), if_neg (by omega), if_neg (by omega), if_neg (by omega)]
  simp only [St.replace, hb]; rfl
theorem replace_goes (s : St) (b : List Nat) (h1 : s.dead = false) (h2 : b.length ≤ s.room) (h3 : s.left = 1) : s.replace b = (13, { s with left := 0, dead := true }) := by
  have hb : s.begin b.length = (1, { s with left := 0, dead := true }) := by
    unfold St.begin
    rw [if_neg (by simp [h1]), if_neg (by omega), if_pos h3]
  simp only [St.replace, hb]; rfl

theorem drew_below (w : World) : Below w.heap.size w w.drew := (Below.refl _ _).drew
/-- Bytes, and what string makes of it. -/
theorem bytes_str (base p : Nat) (q : Option Nat) (s : St) (bs : List Nat) (n : Nat) (e1 : s.bs = bs) (e2 : bs.length = n) (w0 w : World) (h : Tp base w p q s) (hb : Below w0.heap.size w0 w) :
    Calls Tryd.prog 23 #[.pointer (some ⟨p, 0, none⟩)] w fun e w' => ∃ ao cap, e = .returned (.slice ao n cap) ∧ Bytes w' ao bs ∧ n ≤ cap ∧ cap ≤ maxLen ∧ (ao = none → cap = 0) ∧ Below w.heap.size w w' ∧ Below w0.heap.size w0 w' ∧ (convert 31 9 (.slice ao n cap)).run Tryd.prog w' = .ok (.string (str bs)) w' := by
  subst e1
  subst e2
  refine (bytes_any base p q s w h).mono ?_
  rintro e w' ⟨v, rfl, o, b⟩
  obtain ⟨ao, cap, rfl, h1, h2, h3, h4, _⟩ := o.slice
  exact ⟨ao, cap, rfl, h3, h1, h2, h4, b, hb.trans (b.mono hb.size), conv_str h3 rfl⟩

set_option maxRecDepth 20000 in
set_option maxHeartbeats 2000000 in
theorem repl_cut (aoa aob : Option Addr) (na nb ca cb : Nat) (ba bb : List Nat) (ha : ba.length = na) (hb : bb.length = nb) (pick : Int) (a : Addr) (w : World) (hya : Bytes w aoa ba) (hyb : Bytes w aob bb) (hca : aoa = none → ca = 0) (hl : na + nb ≤ 500) (hG : Glob w a) (hz : 1 ≤ w.heap.size) :
    Calls Tryd.prog 8 #[.slice aoa na ca, .slice aob nb cb, .bool true, .int .i64 pick] w fun e w' => e = .returned (.bool true) ∧ Below w.heap.size w w' := by
  have HA := hide ha
  have HB := hide hb
  have YA := hide hya
  have YB := hide hyb
  have CA := hide hca
  have HG := hide hG
  clear ha hb hya hyb hca hG
  go_enter Tryd.func8, Tryd.ntmps8
  go_wp2_with fail
  refine (known_any a w (unhide HG) hz).mono ?_
  rintro e w1 ⟨rfl, b1⟩
  have B1 := hide b1
  have s1 := b1.size
  clear b1
  go_wp2_with fail
  refine (new_ok 1000 w1 (by decide) (by decide)).mono ?_
  rintro e w2 ⟨rfl, t2, b2⟩
  have T2 := hide t2
  have B2 := hide ((unhide B1).trans (b2.mono s1))
  have s2 := b2.size
  have z1 : 1 ≤ w1.heap.size := Nat.le_trans hz s1
  clear t2 b2
  go_wp2_with fail
  refine (append_any w1.heap.size w1.heap.size none _ a aoa na ca ba (unhide HA) w2 (unhide T2) ((unhide HG).kept (unhide B2) hz) z1 s2 (by simp) (by simp) (fun w' k => (unhide YA).below ((unhide B2).trans (k.1.mono s1))) (unhide CA) (by omega)).mono ?_
  rw [append_ok _ _ rfl (by simp [unhide HA]; omega) (by simp)]
  rintro e w3 ⟨q3, rfl, t3, k3, _⟩
  have T3 := hide t3
  have B3 := hide ((unhide B2).trans (k3.1.mono s1))
  have s3 := Nat.le_trans s2 k3.size
  clear t3 k3
  go_wp2_with fail
  refine (sync_any w1.heap.size w1.heap.size q3 _ a w3 (unhide T3) ((unhide HG).kept (unhide B3) hz) s3 (by simp) (by simp)).mono ?_
  rw [sync_ok _ rfl (by simp [unhide HA]; omega) (by simp)]
  rintro e w4 ⟨rfl, t4, k4⟩
  have T4 := hide t4
  have B4 := hide ((unhide B3).trans (k4.1.mono s1))
  have s4 := Nat.le_trans s3 k4.size
  clear t4 k4
  go_wp2_with fail
  refine (stop_any w1.heap.size w1.heap.size q3 _ 1 w4 (unhide T4)).mono ?_
  rintro e w5 ⟨rfl, t5, k5⟩
  have T5 := hide t5
  have B5 := hide ((unhide B4).trans (k5.1.mono s1))
  have s5 := Nat.le_trans s4 k5.size
  clear t5 k5
  go_wp2_with fail
  refine (replace_any w1.heap.size w1.heap.size q3 _ a aob nb cb bb (unhide HB) w5 (unhide T5) ((unhide HG).kept (unhide B5) hz) s5 (by simp) (by simp) (fun w' k => (unhide YB).below ((unhide B5).trans (k.1.mono s1))) (by omega)).mono ?_
  rw [replace_goes _ _ rfl (by simp [unhide HB]; omega) rfl]
  rintro e w6 ⟨q6, rfl, t6, k6, _⟩
  have T6 := hide t6
  have B6 := hide ((unhide B5).trans (k6.1.mono s1))
  have s6 := Nat.le_trans s5 k6.size
  clear t6 k6
  go_wp2_with fail
  refine (crash_any w1.heap.size w1.heap.size q6 _ pick w6 (unhide T6)).mono ?_
  rw [(crash_synced _ pick rfl).1, (crash_synced _ pick rfl).2]
  rintro e w7 ⟨rfl, t7, k7⟩
  have T7 := hide t7
  have B7 := hide ((unhide B6).trans (k7.1.mono s1))
  have s7 := Nat.le_trans s6 k7.size
  clear t7 k7
  have cva := conv_str (cap := ca) ((unhide YA).below (unhide B7).drew) (unhide HA)
  go_wp2
  go_region_with (first
    | (go_at_call 23; refine (bytes_str w1.heap.size w1.heap.size q6 _ ba na rfl (unhide HA) w _ ((unhide T7).below (drew_below _)) (unhide B7).drew).mono ?_; rintro e w8 ⟨ao8, cap8, rfl, y8, _, _, _, _, b8, cv8⟩; have cva8 := conv_str (cap := ca) ((unhide YA).below b8) (unhide HA); have B8 := hide b8; clear y8 b8))
  all_goals go_wp2
  all_goals go_ret
  all_goals refine ⟨?_, unhide B8⟩
  all_goals first | rfl | simp
set_option maxRecDepth 20000 in
set_option maxHeartbeats 2000000 in
theorem repl_not (aoa aob : Option Addr) (na nb ca cb : Nat) (ba bb : List Nat) (ha : ba.length = na) (hb : bb.length = nb) (pick : Int) (a : Addr) (w : World) (hya : Bytes w aoa ba) (hyb : Bytes w aob bb) (hca : aoa = none → ca = 0) (hl : na + nb ≤ 500) (hG : Glob w a) (hz : 1 ≤ w.heap.size) :
    Calls Tryd.prog 8 #[.slice aoa na ca, .slice aob nb cb, .bool false, .int .i64 pick] w fun e w' => e = .returned (.bool true) ∧ Below w.heap.size w w' := by
  have HA := hide ha
  have HB := hide hb
  have YA := hide hya
  have YB := hide hyb
  have CA := hide hca
  have HG := hide hG
  clear ha hb hya hyb hca hG
  go_enter Tryd.func8, Tryd.ntmps8
  go_wp2_with fail
  refine (known_any a w (unhide HG) hz).mono ?_
  rintro e w1 ⟨rfl, b1⟩
  have B1 := hide b1
  have s1 := b1.size
  clear b1
  go_wp2_with fail
  refine (new_ok 1000 w1 (by decide) (by decide)).mono ?_
  rintro e w2 ⟨rfl, t2, b2⟩
  have T2 := hide t2
  have B2 := hide ((unhide B1).trans (b2.mono s1))
  have s2 := b2.size
  have z1 : 1 ≤ w1.heap.size := Nat.le_trans hz s1
  clear t2 b2
  go_wp2_with fail
  refine (append_any w1.heap.size w1.heap.size none _ a aoa na ca ba (unhide HA) w2 (unhide T2) ((unhide HG).kept (unhide B2) hz) z1 s2 (by simp) (by simp) (fun w' k => (unhide YA).below ((unhide B2).trans (k.1.mono s1))) (unhide CA) (by omega)).mono ?_
  rw [append_ok _ _ rfl (by simp [unhide HA]; omega) (by simp)]
  rintro e w3 ⟨q3, rfl, t3, k3, _⟩
  have T3 := hide t3
  have B3 := hide ((unhide B2).trans (k3.1.mono s1))
  have s3 := Nat.le_trans s2 k3.size
  clear t3 k3
  go_wp2_with fail
  refine (sync_any w1.heap.size w1.heap.size q3 _ a w3 (unhide T3) ((unhide HG).kept (unhide B3) hz) s3 (by simp) (by simp)).mono ?_
  rw [sync_ok _ rfl (by simp [unhide HA]; omega) (by simp)]
  rintro e w4 ⟨rfl, t4, k4⟩
  have T4 := hide t4
  have B4 := hide ((unhide B3).trans (k4.1.mono s1))
  have s4 := Nat.le_trans s3 k4.size
  clear t4 k4
  go_wp2_with fail
  refine (replace_any w1.heap.size w1.heap.size q3 _ a aob nb cb bb (unhide HB) w4 (unhide T4) ((unhide HG).kept (unhide B4) hz) s4 (by simp) (by simp) (fun w' k => (unhide YB).below ((unhide B4).trans (k.1.mono s1))) (by omega)).mono ?_
  rw [replace_ok _ _ rfl (by simp [unhide HB]; omega) (by simp)]
  rintro e w6 ⟨q6, rfl, t6, k6, _⟩
  have T6 := hide t6
  have B6 := hide ((unhide B4).trans (k6.1.mono s1))
  have s6 := Nat.le_trans s4 k6.size
  clear t6 k6
  go_wp2_with fail
  refine (crash_any w1.heap.size w1.heap.size q6 _ pick w6 (unhide T6)).mono ?_
  rw [(crash_synced _ pick rfl).1, (crash_synced _ pick rfl).2]
  rintro e w7 ⟨rfl, t7, k7⟩
  have T7 := hide t7
  have B7 := hide ((unhide B6).trans (k7.1.mono s1))
  have s7 := Nat.le_trans s6 k7.size
  clear t7 k7
  have cva := conv_str (cap := cb) ((unhide YB).below (unhide B7).drew) (unhide HB)
  go_wp2
  go_region_with (first
    | (go_at_call 23; refine (bytes_str w1.heap.size w1.heap.size q6 _ bb nb rfl (unhide HB) w _ ((unhide T7).below (drew_below _)) (unhide B7).drew).mono ?_; rintro e w8 ⟨ao8, cap8, rfl, y8, _, _, _, _, b8, cv8⟩; have cva8 := conv_str (cap := cb) ((unhide YB).below b8) (unhide HB); have B8 := hide b8; clear y8 b8))
  all_goals go_wp2
  all_goals go_ret
  all_goals refine ⟨?_, unhide B8⟩
  all_goals first | rfl | simp
theorem repl_skip (aoa aob : Option Addr) (na nb ca cb : Nat) (c : Bool) (pick : Int) (a : Addr) (w : World) (hma : na ≤ 140737488355327) (hmb : nb ≤ 140737488355327) (hl : 500 < na + nb) (hG : Glob w a) (hz : 1 ≤ w.heap.size) :
    Calls Tryd.prog 8 #[.slice aoa na ca, .slice aob nb cb, .bool c, .int .i64 pick] w fun e w' => e = .returned (.bool true) ∧ Below w.heap.size w w' := by

  have HG := hide hG
  clear hG
  go_enter Tryd.func8, Tryd.ntmps8
  go_wp2_with fail
  refine (known_any a w (unhide HG) hz).mono ?_
  rintro e w1 ⟨rfl, b1⟩
  go_wp2
  go_ret
  exact ⟨rfl, b1⟩
end Go.Proofs.YtnohkbekljfehaaDoor
