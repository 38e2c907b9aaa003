/- The walk of TapeFronts. -/
import Derived.Test.YtnohkbekljfehaaDoorTReplW
import Derived.Deep.RegionHeld
namespace Go.Proofs.YtnohkbekljfehaaDoor
open Go.RowKit

theorem str_size (bs : List Nat) : (str bs).size = bs.length := by
  simp [str, strOfNums, ByteArray.size]
theorem str_append (a b : List Nat) : str (a ++ b) = str a ++ str b := by
  apply ByteArray.ext
  simp [str, strOfNums]
theorem Bytes.take {w : World} {ao : Option Addr} {bs : List Nat} (h : Bytes w ao bs) (k : Nat) : Bytes w ao (bs.take k) := by
  refine ⟨fun x hx => h.1 x (List.mem_of_mem_take hx), fun i hi => ?_⟩
  rw [List.length_take] at hi
  obtain ⟨a', ea, hc⟩ := h.2 i (by omega)
  refine ⟨a', ea, ?_⟩
  rw [hc, List.getD_eq_getElem?_getD, List.getD_eq_getElem?_getD, List.getElem?_take_of_lt (by omega)]
theorem within_nat (n m : Int) (k : Nat) (hk : n % m = k) (w : World) (h1 : 0 < m) (h2 : m ≤ 1000000000000) :
    Calls Tryd.prog 12 #[.int .i64 n, .int .i64 m] w fun ev w' => ev = .returned (.int .i64 (k : Int)) ∧ w' = w := by
  rw [← hk]; exact within_any n m w h1 h2

set_option maxRecDepth 20000 in
set_option maxHeartbeats 2000000 in
theorem fronts_walk (aoa aob : Option Addr) (na nb ca cb : Nat) (ba bb : List Nat) (ha : ba.length = na) (hb : bb.length = nb) (pick : Int) (a : Addr) (w : World) (hya : Bytes w aoa ba) (hyb : Bytes w aob bb) (hca : aoa = none → ca = 0) (hcb : aob = none → cb = 0) (hbc : nb ≤ cb) (hl : na + nb ≤ 500) (hG : Glob w a) (hz : 1 ≤ w.heap.size) :
    Calls Tryd.prog 7 #[.slice aoa na ca, .slice aob nb cb, .int .i64 pick] w fun e w' => e = .returned (.bool true) ∧ Below w.heap.size w w' := by
  have HA := hide ha
  have HB := hide hb
  have YA := hide hya
  have YB := hide hyb
  have CA := hide hca
  have CB := hide hcb
  have HG := hide hG
  clear ha hb hya hyb hca hcb hG
  go_enter Tryd.func7, Tryd.ntmps7
  go_wp2_with fail
  refine (known_any a w (unhide HG) hz).mono ?_
  rintro e w1 ⟨rfl, b1⟩
  have B1 := hide b1
  have s1 := b1.size
  clear b1
  go_wp2_with fail
  refine (new_ok 1000 w1 (by decide) (by decide)).mono ?_
  rintro e w2 ⟨rfl, t2, b2⟩
  have T2 := hide t2
  have B2 := hide ((unhide B1).trans (b2.mono s1))
  have s2 := b2.size
  have z1 : 1 ≤ w1.heap.size := Nat.le_trans hz s1
  clear t2 b2
  go_wp2_with fail
  refine (append_any w1.heap.size w1.heap.size none _ a aoa na ca ba (unhide HA) w2 (unhide T2) ((unhide HG).kept (unhide B2) hz) z1 s2 (by simp) (by simp) (fun w' k => (unhide YA).below ((unhide B2).trans (k.1.mono s1))) (unhide CA) (by omega)).mono ?_
  rw [append_ok _ _ rfl (by simp [unhide HA]; omega) (by simp)]
  rintro e w3 ⟨q3, rfl, t3, k3, _⟩
  have T3 := hide t3
  have B3 := hide ((unhide B2).trans (k3.1.mono s1))
  have s3 := Nat.le_trans s2 k3.size
  clear t3 k3
  go_wp2_with fail
  refine (sync_any w1.heap.size w1.heap.size q3 _ a w3 (unhide T3) ((unhide HG).kept (unhide B3) hz) s3 (by simp) (by simp)).mono ?_
  rw [sync_ok _ rfl (by simp [unhide HA]; omega) (by simp)]
  rintro e w4 ⟨rfl, t4, k4⟩
  have T4 := hide t4
  have B4 := hide ((unhide B3).trans (k4.1.mono s1))
  have s4 := Nat.le_trans s3 k4.size
  clear t4 k4
  go_wp2_with fail
  refine (append_any w1.heap.size w1.heap.size q3 _ a aob nb cb bb (unhide HB) w4 (unhide T4) ((unhide HG).kept (unhide B4) hz) z1 s4 (by simp) (by simp) (fun w' k => (unhide YB).below ((unhide B4).trans (k.1.mono s1))) (unhide CB) (by omega)).mono ?_
  rw [append_ok _ _ rfl (by simp [unhide HA, unhide HB]; omega) (by simp)]
  rintro e w5 ⟨q5, rfl, t5, k5, _⟩
  have T5 := hide t5
  have B5 := hide ((unhide B4).trans (k5.1.mono s1))
  have s5 := Nat.le_trans s4 k5.size
  clear t5 k5
  obtain ⟨k, ek⟩ : ∃ k : Nat, pick % ((nb : Int) + 1) = (k : Int) := ⟨(pick % ((nb : Int) + 1)).toNat, by have := Int.emod_nonneg pick (show ((nb : Int) + 1) ≠ 0 by omega); omega⟩
  have hk : k ≤ nb := by have := Int.emod_lt_of_pos pick (show (0 : Int) < (nb : Int) + 1 by omega); omega
  have ek1 : St.kept ⟨1000, [] ++ ba ++ bb, ([] ++ ba).length, 0 + 1 + 1 + 1, 0, false⟩ pick = k := by
    unfold St.kept
    simp only [List.nil_append, List.length_append, unhide HA, unhide HB]
    rw [show (((na + nb : Nat) : Int) - (na : Int) + 1) = (nb : Int) + 1 by omega, ek]; rfl
  have ec1 : St.crash ⟨1000, [] ++ ba ++ bb, ([] ++ ba).length, 0 + 1 + 1 + 1, 0, false⟩ pick = ⟨1000, ba ++ bb.take k, na + k, 3, 0, false⟩ := by
    unfold St.crash
    rw [ek1]
    simp only [List.nil_append, unhide HA]
    rw [List.take_append, unhide HA, List.take_of_length_le (by rw [unhide HA]; omega), show na + k - na = k by omega]
  have EK := hide ek
  have EK1 := hide ek1
  have EC1 := hide ec1
  clear ek ek1 ec1
  go_wp2_with fail
  refine (crash_any w1.heap.size w1.heap.size q5 _ pick w5 (unhide T5)).mono ?_
  rw [unhide EK1, unhide EC1]
  rintro e w6 ⟨rfl, t6, k6⟩
  have T6 := hide t6
  have B6 := hide ((unhide B5).trans (k6.1.mono s1))
  have s6 := Nat.le_trans s5 k6.size
  clear t6 k6
  have hsy : St.syn ⟨1000, ba ++ bb.take k, na + k, 3, 0, false⟩ = (St.bs ⟨1000, ba ++ bb.take k, na + k, 3, 0, false⟩).length := by
    simp only [List.length_append, List.length_take, unhide HA, unhide HB]; omega
  have HSY := hide hsy
  clear hsy
  go_wp2_with fail
  refine (crash_any w1.heap.size w1.heap.size q5 _ pick w6 (unhide T6)).mono ?_
  rw [(crash_synced _ pick (unhide HSY)).1, (crash_synced _ pick (unhide HSY)).2]
  rintro e w7 ⟨rfl, t7, k7⟩
  have T7 := hide t7
  have B7 := hide ((unhide B6).trans (k7.1.mono s1))
  have s7 := Nat.le_trans s6 k7.size
  clear t7 k7
  have YT : ∀ w', Below w.heap.size w w' → (convert 31 9 (.slice aoa na ca)).run Tryd.prog w' = .ok (.string (str ba)) w' ∧ (convert 31 9 (.slice aob k cb)).run Tryd.prog w' = .ok (.string (str (bb.take k))) w' := fun w' hb => ⟨conv_str ((unhide YA).below hb) (unhide HA), conv_str (((unhide YB).below hb).take k) (by rw [List.length_take, unhide HB]; omega)⟩
  have S7 := YT _ (unhide B7).drew
  have HYT := hide YT
  have z1' : (str ba).size = na := by rw [str_size, unhide HA]
  have z2' : (str (bb.take k)).size = k := by rw [str_size, List.length_take, unhide HB]; omega
  have z3' : str (ba ++ bb.take k) = str ba ++ str (bb.take k) := str_append _ _
  have lk : (ba ++ bb.take k).length = na + k := by rw [List.length_append, List.length_take, unhide HA, unhide HB]; omega
  have LK := hide lk
  have x1 : IntKind.i64.wrap ((nb : Int) + 1) = (nb : Int) + 1 := IntWalk.i64_in _ (by omega)
  have kle : (k : Int) ≤ (cb : Int) := by omega
  have k0 : (0 : Int) ≤ (k : Int) := by omega
  clear YT lk
  go_wp2
  go_region_held (fun w' => (convert 31 9 (.slice aoa na ca)).run Tryd.prog w' = .ok (.string (str ba)) w' ∧ (convert 31 9 (.slice aob k cb)).run Tryd.prog w' = .ok (.string (str (bb.take k))) w') (first | exact S7 | exact S8)
    (first
    | (go_at_call 12; refine (within_nat pick _ k (unhide EK) _ (by omega) (by omega)).mono ?_; rintro e w' ⟨rfl, rfl⟩)
    | (go_at_call 23; refine (bytes_str w1.heap.size w1.heap.size q5 _ (ba ++ bb.take k) (na + k) rfl (unhide LK) w _ ((unhide T7).below (drew_below _)) (unhide B7).drew).mono ?_; rintro e w8 ⟨ao8, cap8, rfl, y8, _, _, _, _, b8, cv8⟩; have S8 := unhide HYT _ b8; have B8 := hide b8; clear y8 b8))
  all_goals go_wp2
  all_goals go_ret
  all_goals refine ⟨?_, unhide B8⟩
  all_goals first | rfl | simp [z3']
theorem fronts_skip (aoa aob : Option Addr) (na nb ca cb : Nat) (pick : Int) (a : Addr) (w : World) (hma : na ≤ 140737488355327) (hmb : nb ≤ 140737488355327) (hl : 500 < na + nb) (hG : Glob w a) (hz : 1 ≤ w.heap.size) :
    Calls Tryd.prog 7 #[.slice aoa na ca, .slice aob nb cb, .int .i64 pick] w fun e w' => e = .returned (.bool true) ∧ Below w.heap.size w w' := by
  have HG := hide hG
  clear hG
  go_enter Tryd.func7, Tryd.ntmps7
  go_wp2_with fail
  refine (known_any a w (unhide HG) hz).mono ?_
  rintro e w1 ⟨rfl, b1⟩
  go_wp2
  go_ret
  exact ⟨rfl, b1⟩
end Go.Proofs.YtnohkbekljfehaaDoor
