/- The walk of TapeRoom. -/
import Derived.Test.YtnohkbekljfehaaDoorTFrontsW
import Derived.Test.YtnohkbekljfehaaDoorTArgs
namespace Go.Proofs.YtnohkbekljfehaaDoor
open Go.RowKit

theorem append_full (s : St) (b : List Nat) (h1 : s.dead = false) (h2 : s.room < s.bs.length + b.length) : s.append b = (14, s) := by
  have hb : s.begin (s.bs.length + b.length) = (14, s) := by
    unfold St.begin
    rw [if_neg (by simp [h1]), if_pos h2]
  simp only [St.append, hb]; rfl
theorem replace_full (s : St) (b : List Nat) (h1 : s.dead = false) (h2 : s.room < b.length) : s.replace b = (14, s) := by
  have hb : s.begin b.length = (14, s) := by
    unfold St.begin
    rw [if_neg (by simp [h1]), if_pos h2]
  simp only [St.replace, hb]; rfl
/-- zeros that were just made. -/
def zeros (n : Nat) : List Nat := List.replicate n 0
theorem zeros_length (n : Nat) : (zeros n).length = n := by simp [zeros]
theorem zeros_made {base n : Nat} {w w' : World} (h : w'.ownsRow base 5 1 (.slice (some ⟨w.heap.size, 0, none⟩) n n) n (madeCells #[Value.int .u8 0] n).toList) (hg : w.grownBy w' none) :
    Bytes w' (some ⟨w.heap.size, 0, none⟩) (zeros n) ∧ Below w.heap.size w w' := by
  have zb : ∀ x ∈ zeros n, x < 256 := by intro x hx; have := List.eq_of_mem_replicate hx; omega
  have o2 : Own base w' (.slice (some ⟨w.heap.size, 0, none⟩) n n) (zeros n) := by
    refine ⟨?_, zb⟩
    have e : u8s (zeros n) = (madeCells #[Value.int .u8 0] n).toList := by rw [toList_madeCells_one, zeros, u8s, List.map_replicate]; rfl
    rw [zeros_length, e]; exact h
  obtain ⟨ao, cap, ev, _, _, hby, _⟩ := o2.slice
  simp only [Value.slice.injEq] at ev
  refine ⟨by rw [ev.1]; exact hby, (Below.refl _ _).grown hg (Nat.le_refl _) (fun k hk => by cases hk)⟩

set_option maxRecDepth 20000 in
set_option maxHeartbeats 4000000 in
theorem room_walk (room : Int) (ao : Option Addr) (n cap : Nat) (xs : List Int) (hn : xs.length = n) (a : Addr) (w : World) (hx : Nums w ao xs) (hG : Glob w a) (hz : 1 ≤ w.heap.size) :
    Calls Tryd.prog 6 #[.int .i64 room, .slice ao n cap] w fun e w' => e = .returned (.bool true) ∧ Below w.heap.size w w' := by
  obtain ⟨i0, hi, hz0, hz1, hz2⟩ := info_parts Tryd.info5
  obtain ⟨r0, er⟩ : ∃ r0 : Nat, room % 200 = (r0 : Int) := ⟨(room % 200).toNat, by omega⟩
  have hr0 : r0 < 200 := by omega
  obtain ⟨r, er1⟩ : ∃ r : Nat, 1 + r0 = r := ⟨_, rfl⟩
  have er2 : (1 : Int) + (r0 : Int) = (r : Int) := by omega
  have ER := hide er
  have HN := hide hn
  have HX := hide hx
  have HG := hide hG
  have E2 := hide er2
  have r1 : 1 ≤ r := by omega
  have r2 : r ≤ 200 := by omega
  clear er hn hx hG er1 er2 hr0
  go_enter Tryd.func6, Tryd.ntmps6
  go_wp2_with fail
  refine (known_any a w (unhide HG) hz).mono ?_
  rintro e w1 ⟨rfl, b1⟩
  have B1 := hide b1
  have s1 := b1.size
  clear b1
  go_wp2_with fail
  refine (within_nat room 200 r0 (unhide ER) w1 (by omega) (by omega)).mono ?_
  rintro e w1' ⟨rfl, rfl⟩
  have e2 := unhide E2
  go_wp2_with fail
  refine (new_ok r w1' r1 (by omega)).mono ?_
  rintro e w2 ⟨rfl, t2, b2⟩
  have T2 := hide t2
  have B2 := hide ((unhide B1).trans (b2.mono s1))
  have s2 := b2.size
  have z1 : 1 ≤ w1'.heap.size := Nat.le_trans hz s1
  clear t2 b2
  go_wp2_with fail
  go_loopg [7, 8] 30 (fun g nv iv wr => ∃ (i : Nat) (qb : Option Nat) (ops : Nat) (bs : List Nat), i + g = 30 ∧ ops ≤ i ∧ bs.length ≤ r ∧ nv = .int .i64 (bs.length : Int) ∧ iv = .int .i64 (i : Int) ∧ Tp w1'.heap.size wr w1'.heap.size qb ⟨r, bs, 0, ops, 0, false⟩ ∧ Below w.heap.size w wr ∧ w1'.heap.size ≤ wr.heap.size)
  case atStart => exact ⟨0, none, 0, [], rfl, Nat.le_refl _, Nat.zero_le _, rfl, rfl, unhide T2, unhide B2, s2⟩
  case round =>
    obtain ⟨i, qb, ops, bs, hig, hops, hbs, rfl, rfl, tr, br, sr⟩ := hrel
    have TR := hide tr
    have BR := hide br
    have HIG := hide hig
    have hi30 : i ≤ 30 := by omega
    clear tr br hig T2 B2
    obtain ⟨m, em⟩ : ∃ m, bs.length = m := ⟨_, rfl⟩
    rw [em] at hbs ⊢
    have EM := hide em
    clear em
    by_cases h1 : i < n
    · by_cases h2 : i < 30
      · obtain ⟨ad, rfl, hc, _⟩ := unhide HX i (by rw [unhide HN]; exact h1)
        have hcr : wr.cell? (ad.add i) = some (.int .i64 (xs.getD i 0)) := by rw [(unhide BR).cell (blk_lt hc)]; exact hc
        obtain ⟨x, ex⟩ : ∃ x, xs.getD i 0 = x := ⟨_, rfl⟩
        rw [ex] at hcr
        obtain ⟨k, ek⟩ : ∃ k : Nat, x % 60 = (k : Int) := ⟨(x % 60).toNat, by omega⟩
        have hk : k < 60 := by omega
        have EK := hide ek
        clear ek ex hc
        go_wp2_with fail
        refine (within_nat x 60 k (unhide EK) wr (by omega) (by omega)).mono ?_
        rintro e wr' ⟨rfl, rfl⟩
        go_wp2_with (at_make; refine wpList_make_full _ rfl _ _ 31 rfl w.heap.size 5 i0 (.int .u8 0) 1 Tryd.underlying31 hi hz0 hz1 .i64 .i64 _ _ k rfl rfl rfl rfl (by rw [hz2]; omega) (by unfold maxLen; omega) (Nat.le_trans s1 sr) ?_)
        intro w3 hown3 hgrow3
        obtain ⟨y3, b3⟩ := zeros_made hown3 hgrow3
        have t3 := (unhide TR).below b3
        have T3 := hide t3
        have Y3 := hide y3
        have B3 := hide ((unhide BR).trans (b3.mono (unhide BR).size))
        have s3 := Nat.le_trans sr b3.size
        have hne : wr'.heap.size ≠ w1'.heap.size := by have := (unhide TR).lt.2.1; omega
        clear y3 b3 t3 hown3 hgrow3 hcr
        by_cases hf : m + k ≤ r
        · go_wp2_with fail
          refine (append_any w1'.heap.size w1'.heap.size qb _ a (some ⟨wr'.heap.size, 0, none⟩) k k (zeros k) (zeros_length k) w3 (unhide T3) ((unhide HG).kept (unhide B3) hz) z1 s3 (by simp only; omega) (by simp) (fun w' kk => (unhide Y3).far kk (fun x hx => by cases hx; exact hne)) (fun h => by cases h) (by omega)).mono ?_
          rw [append_ok _ _ rfl (by simp only [zeros_length, unhide EM]; exact hf) (by simp)]
          rintro e w4 ⟨q4, rfl, t4, k4, _⟩
          have T4 := hide t4
          have B4 := hide ((unhide B3).trans (k4.1.mono s1))
          have s4 := Nat.le_trans s3 k4.size
          have lm : (bs ++ zeros k).length = m + k := by rw [List.length_append, unhide EM, zeros_length]
          have LM := hide lm
          clear t4 k4 lm
          go_wp2_with fail
          refine (bytes_str w1'.heap.size w1'.heap.size q4 _ (bs ++ zeros k) (m + k) rfl (unhide LM) w w4 (unhide T4) (unhide B4)).mono ?_
          rintro e w5 ⟨ao5, cap5, rfl, _, _, _, _, b5', b5, _⟩
          have T5 := hide ((unhide T4).below b5')
          have B5 := hide b5
          have s5 := Nat.le_trans s4 b5'.size
          clear b5 b5'
          go_wp2
          go_roundg (30 - (i + 1))
          case measure => have := unhide HIG; omega
          case rel => exact ⟨i + 1, q4, ops + 1, bs ++ zeros k, by omega, by omega, by rw [unhide LM]; exact hf, by rw [unhide LM]; go_num, by go_num, unhide T5, unhide B5, s5⟩
        · go_wp2_with fail
          refine (append_any w1'.heap.size w1'.heap.size qb _ a (some ⟨wr'.heap.size, 0, none⟩) k k (zeros k) (zeros_length k) w3 (unhide T3) ((unhide HG).kept (unhide B3) hz) z1 s3 (by simp only; omega) (by simp) (fun w' kk => (unhide Y3).far kk (fun x hx => by cases hx; exact hne)) (fun h => by cases h) (by omega)).mono ?_
          rw [append_full _ _ rfl (by simp only [zeros_length, unhide EM]; omega)]
          rintro e w4 ⟨q4, rfl, t4, k4, _⟩
          have T4 := hide t4
          have B4 := hide ((unhide B3).trans (k4.1.mono s1))
          have s4 := Nat.le_trans s3 k4.size
          clear t4 k4
          go_wp2_with fail
          refine (bytes_str w1'.heap.size w1'.heap.size q4 _ bs m rfl (unhide EM) w w4 (unhide T4) (unhide B4)).mono ?_
          rintro e w5 ⟨ao5, cap5, rfl, _, _, _, _, b5', b5, _⟩
          have T5 := hide ((unhide T4).below b5')
          have B5 := hide b5
          have s5 := Nat.le_trans s4 b5'.size
          clear b5 b5'
          go_wp2
          go_roundg (30 - (i + 1))
          case measure => have := unhide HIG; omega
          case rel => exact ⟨i + 1, q4, ops, bs, by omega, by omega, by rw [unhide EM]; exact hbs, by rw [unhide EM], by go_num, unhide T5, unhide B5, s5⟩
      · go_wp2_with (at_make; refine wpList_make_full _ rfl _ _ 31 rfl w.heap.size 5 i0 (.int .u8 0) 1 Tryd.underlying31 hi hz0 hz1 .i64 .i64 _ _ (r + 1) rfl rfl (by omega) (by omega) (by rw [hz2]; omega) (by unfold maxLen; omega) (Nat.le_trans s1 sr) ?_)
        intro w3 hown3 hgrow3
        obtain ⟨y3, b3⟩ := zeros_made hown3 hgrow3
        have T3 := hide ((unhide TR).below b3)
        have Y3 := hide y3
        have B3 := hide ((unhide BR).trans (b3.mono (unhide BR).size))
        have s3 := Nat.le_trans sr b3.size
        have hne : wr.heap.size ≠ w1'.heap.size := by have := (unhide TR).lt.2.1; omega
        clear y3 b3 hown3 hgrow3
        go_wp2_with fail
        refine (replace_any w1'.heap.size w1'.heap.size qb _ a (some ⟨wr.heap.size, 0, none⟩) (r + 1) (r + 1) (zeros (r + 1)) (zeros_length _) w3 (unhide T3) ((unhide HG).kept (unhide B3) hz) s3 (by simp only; omega) (by simp) (fun w' kk => (unhide Y3).far kk (fun x hx => by cases hx; exact hne)) (by omega)).mono ?_
        rw [replace_full _ _ rfl (by simp only [zeros_length]; omega)]
        rintro e w4 ⟨q4, rfl, t4, k4, _⟩
        have T4 := hide t4
        have B4 := hide ((unhide B3).trans (k4.1.mono s1))
        have s4 := Nat.le_trans s3 k4.size
        clear t4 k4
        go_wp2_with fail
        refine (bytes_str w1'.heap.size w1'.heap.size q4 _ bs m rfl (unhide EM) w w4 (unhide T4) (unhide B4)).mono ?_
        rintro e w5 ⟨ao5, cap5, rfl, _, _, _, _, b5', b5, _⟩
        have T5 := hide ((unhide T4).below b5')
        have B5 := hide b5
        have s5 := Nat.le_trans s4 b5'.size
        clear b5 b5'
        go_wp2_with fail
        refine (replace_any w1'.heap.size w1'.heap.size q4 _ a none 0 0 [] rfl w5 (unhide T5) ((unhide HG).kept (unhide B5) hz) s5 (by simp only; omega) (by simp) (fun w' kk => ⟨by simp, by simp⟩) (by omega)).mono ?_
        rw [replace_ok _ _ rfl (by simp) (by simp)]
        rintro e w6 ⟨q6, rfl, t6, k6, _⟩
        have T6 := hide t6
        have B6 := hide ((unhide B5).trans (k6.1.mono s1))
        have s6 := Nat.le_trans s5 k6.size
        clear t6 k6
        obtain ⟨w7, hrun, own7, g7⟩ := run_make_full (P := Tryd.prog) w6 w.heap.size 31 5 i0 (.int .u8 0) 1 Tryd.underlying31 hi hz0 hz1 .i64 .i64 r (by rw [hz2]; omega) (by unfold maxLen; omega) (Nat.le_trans s1 s6)
        have e0 : madeCells (Value.cells (.int .u8 0)) (r * 1) = madeCells #[Value.int .u8 0] r := by rw [Nat.mul_one]; rfl
        rw [e0] at own7
        obtain ⟨y7, b7⟩ := zeros_made own7 g7
        have T7 := hide ((unhide T6).below b7)
        have Y7 := hide y7
        have B7 := hide ((unhide B6).trans (b7.mono (unhide B6).size))
        have s7 := Nat.le_trans s6 b7.size
        have hne7 : w6.heap.size ≠ w1'.heap.size := by have := (unhide T6).lt.2.1; omega
        clear y7 b7 own7 g7 e0
        go_wp2_with fail
        refine (append_any w1'.heap.size w1'.heap.size q6 _ a (some ⟨w6.heap.size, 0, none⟩) r r (zeros r) (zeros_length _) w7 (unhide T7) ((unhide HG).kept (unhide B7) hz) z1 s7 (by simp only; omega) (by simp) (fun w' kk => (unhide Y7).far kk (fun x hx => by cases hx; exact hne7)) (fun h => by cases h) (by omega)).mono ?_
        rw [append_ok _ _ rfl (by simp [zeros_length]) (by simp)]
        rintro e w8 ⟨q8, rfl, t8, k8, _⟩
        have B8 := hide ((unhide B7).trans (k8.1.mono s1))
        clear t8 k8 hrun
        go_wp2
        go_ret
        exact ⟨rfl, unhide B8⟩
    · go_wp2_with (at_make; refine wpList_make_full _ rfl _ _ 31 rfl w.heap.size 5 i0 (.int .u8 0) 1 Tryd.underlying31 hi hz0 hz1 .i64 .i64 _ _ (r + 1) rfl rfl (by omega) (by omega) (by rw [hz2]; omega) (by unfold maxLen; omega) (Nat.le_trans s1 sr) ?_)
      intro w3 hown3 hgrow3
      obtain ⟨y3, b3⟩ := zeros_made hown3 hgrow3
      have T3 := hide ((unhide TR).below b3)
      have Y3 := hide y3
      have B3 := hide ((unhide BR).trans (b3.mono (unhide BR).size))
      have s3 := Nat.le_trans sr b3.size
      have hne : wr.heap.size ≠ w1'.heap.size := by have := (unhide TR).lt.2.1; omega
      clear y3 b3 hown3 hgrow3
      go_wp2_with fail
      refine (replace_any w1'.heap.size w1'.heap.size qb _ a (some ⟨wr.heap.size, 0, none⟩) (r + 1) (r + 1) (zeros (r + 1)) (zeros_length _) w3 (unhide T3) ((unhide HG).kept (unhide B3) hz) s3 (by simp only; omega) (by simp) (fun w' kk => (unhide Y3).far kk (fun x hx => by cases hx; exact hne)) (by omega)).mono ?_
      rw [replace_full _ _ rfl (by simp only [zeros_length]; omega)]
      rintro e w4 ⟨q4, rfl, t4, k4, _⟩
      have T4 := hide t4
      have B4 := hide ((unhide B3).trans (k4.1.mono s1))
      have s4 := Nat.le_trans s3 k4.size
      clear t4 k4
      go_wp2_with fail
      refine (bytes_str w1'.heap.size w1'.heap.size q4 _ bs m rfl (unhide EM) w w4 (unhide T4) (unhide B4)).mono ?_
      rintro e w5 ⟨ao5, cap5, rfl, _, _, _, _, b5', b5, _⟩
      have T5 := hide ((unhide T4).below b5')
      have B5 := hide b5
      have s5 := Nat.le_trans s4 b5'.size
      clear b5 b5'
      go_wp2_with fail
      refine (replace_any w1'.heap.size w1'.heap.size q4 _ a none 0 0 [] rfl w5 (unhide T5) ((unhide HG).kept (unhide B5) hz) s5 (by simp only; omega) (by simp) (fun w' kk => ⟨by simp, by simp⟩) (by omega)).mono ?_
      rw [replace_ok _ _ rfl (by simp) (by simp)]
      rintro e w6 ⟨q6, rfl, t6, k6, _⟩
      have T6 := hide t6
      have B6 := hide ((unhide B5).trans (k6.1.mono s1))
      have s6 := Nat.le_trans s5 k6.size
      clear t6 k6
      obtain ⟨w7, hrun, own7, g7⟩ := run_make_full (P := Tryd.prog) w6 w.heap.size 31 5 i0 (.int .u8 0) 1 Tryd.underlying31 hi hz0 hz1 .i64 .i64 r (by rw [hz2]; omega) (by unfold maxLen; omega) (Nat.le_trans s1 s6)
      have e0 : madeCells (Value.cells (.int .u8 0)) (r * 1) = madeCells #[Value.int .u8 0] r := by rw [Nat.mul_one]; rfl
      rw [e0] at own7
      obtain ⟨y7, b7⟩ := zeros_made own7 g7
      have T7 := hide ((unhide T6).below b7)
      have Y7 := hide y7
      have B7 := hide ((unhide B6).trans (b7.mono (unhide B6).size))
      have s7 := Nat.le_trans s6 b7.size
      have hne7 : w6.heap.size ≠ w1'.heap.size := by have := (unhide T6).lt.2.1; omega
      clear y7 b7 own7 g7 e0
      go_wp2_with fail
      refine (append_any w1'.heap.size w1'.heap.size q6 _ a (some ⟨w6.heap.size, 0, none⟩) r r (zeros r) (zeros_length _) w7 (unhide T7) ((unhide HG).kept (unhide B7) hz) z1 s7 (by simp only; omega) (by simp) (fun w' kk => (unhide Y7).far kk (fun x hx => by cases hx; exact hne7)) (fun h => by cases h) (by omega)).mono ?_
      rw [append_ok _ _ rfl (by simp [zeros_length]) (by simp)]
      rintro e w8 ⟨q8, rfl, t8, k8, _⟩
      have B8 := hide ((unhide B7).trans (k8.1.mono s1))
      clear t8 k8 hrun
      go_wp2
      go_ret
      exact ⟨rfl, unhide B8⟩
end Go.Proofs.YtnohkbekljfehaaDoor
