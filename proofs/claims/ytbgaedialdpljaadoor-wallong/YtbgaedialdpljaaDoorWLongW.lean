/- The walk of WalLong. -/
import Derived.Test.YtbgaedialdpljaaDoorWLaws
namespace Go.Proofs.YtbgaedialdpljaaDoor
open Go.RowKit

theorem fit_first : Fit [[102, 105, 114, 115, 116]] := fun x hx => by simp only [List.mem_cons, List.not_mem_nil, or_false] at hx; subst hx; exact ⟨by decide, by decide⟩
theorem fit_zeros {n : Nat} (h : n ≤ 65536) : Fit ([[102, 105, 114, 115, 116]] ++ [zeros n]) := fit_first.snoc (zeros_lt n) (by rw [zeros_length]; exact h)

set_option maxRecDepth 20000 in
set_option maxHeartbeats 4000000 in
theorem long_walk (more room : Int) (g a : Addr) (w : World) (hS : Start w g a) :
    Calls Tryd.prog 6 #[.int .i64 more, .int .i64 room] w fun e w' => e = .returned (.bool true) ∧ Below w.heap.size w w' := by
  obtain ⟨i0, hi, hz0, hz1, hz2⟩ := info_parts Tryd.info5
  have hcv := fun (w : World) (C : Array Value) (n c : Nat) => Lib.run_convert_bytes_const (P := Tryd.prog) w 32 5 C n c Tryd.underlying32 Tryd.underlying5
  obtain ⟨k, ek⟩ : ∃ k : Nat, more % 4 = (k : Int) := ⟨(more % 4).toNat, by omega⟩
  have hk4 : k < 4 := by omega
  obtain ⟨N, hN⟩ : ∃ N : Nat, N = 65535 + k := ⟨_, rfl⟩
  have hNi : (N : Int) = 65535 + (k : Int) := by omega
  obtain ⟨r0, er⟩ : ∃ r0 : Nat, room % 40 = (r0 : Int) := ⟨(room % 40).toNat, by omega⟩
  have hr0 : r0 < 40 := by omega
  have EK := hide ek
  have ER := hide er
  have HNI := hide hNi
  have HS := hide hS
  have hz := hS.low
  have HNN := hide hN
  clear ek er hNi hS hN
  go_enter Tryd.func6, Tryd.ntmps6
  go_wp2_with fail
  refine (known_any g a w (unhide HS)).mono ?_
  rintro e w1 ⟨rfl, b1⟩
  have S1 := hide ((unhide HS).below b1)
  have B1 := hide b1
  have s1 := b1.size
  have z1 : 4 ≤ w1.heap.size := Nat.le_trans hz s1
  clear b1
  go_wp2_with fail
  refine (within_at more 4 k (unhide EK) w1 (by omega) (by omega)).mono ?_
  rintro e w1' ⟨rfl, rfl⟩
  go_wp2_with fail
  refine (new_ok 131072 w1' (by decide) (by decide)).mono ?_
  rintro e w2 ⟨rfl, t2, b2⟩
  have s2 := b2.size
  have S2 := hide ((unhide S1).below b2)
  have B2 := hide ((unhide B1).trans (b2.mono s1))
  have HC := hide (nopen w1'.heap.size w1'.heap.size none 131072 0 0 0 [] g a w2 t2 (unhide S2) s2 Fit.nil rfl (by decide))
  clear t2 b2
  go_wp2_with fail
  refine (unhide HC).mono ?_
  rintro e w3 ⟨l, rfl, hl, l3, b3⟩
  have s3 : w1'.heap.size ≤ w3.heap.size := Nat.le_trans s2 b3.size
  have c3 : Below w3.heap.size w3 (w3.alloc (.cells (u8s [102, 105, 114, 115, 116]).toArray 5 (5, 6))) := (Below.refl _ w3).alloc (Nat.le_refl _) _
  have S3 := (unhide S2).below b3
  have HC3 := hide (nappend w1'.heap.size l w1'.heap.size none 131072 0 0 0 [] g a (some ⟨w3.heap.size, 0, none⟩) 5 5 [102, 105, 114, 115, 116] rfl _ (l3.below c3) (S3.below c3) z1 (Nat.le_trans s3 c3.size) rfl (by decide) (bytes_new w3 [102, 105, 114, 115, 116] (by decide) 5 (5, 6)) (fun h => by cases h) (by decide) (by decide) (by decide) (by decide))
  have B3 := hide (((unhide B2).trans (b3.mono (unhide B2).size)).trans (c3.mono (Nat.le_trans s1 s3)))
  have SS3 := hide (S3.below c3)
  have s3a : w1'.heap.size ≤ (w3.alloc (.cells (u8s [102, 105, 114, 115, 116]).toArray 5 (5, 6))).heap.size := Nat.le_trans s3 c3.size
  clear b3 c3 l3 S3 HC
  go_wp2_with fail
  refine (unhide HC3).mono ?_
  rintro e w4 ⟨q4, rfl, l4, k4, _⟩
  have S4 := hide ((unhide SS3).keptd k4 z1)
  have L4 := hide l4
  have B4 := hide ((unhide B3).trans (k4.1.mono s1))
  have s4 : w1'.heap.size ≤ w4.heap.size := Nat.le_trans s3a k4.size
  clear l4 k4 HC3
  have hni := unhide HNI
  go_wp2_with (at_make; refine wpList_make_full _ rfl _ _ 32 rfl w1'.heap.size 5 i0 (.int .u8 0) 1 Tryd.underlying32 hi hz0 hz1 .i64 .i64 _ _ N rfl rfl hni.symm hni.symm (by rw [hz2]; omega) (by unfold maxLen; omega) s4 ?_)
  intro w5 hown5 hgrow5
  obtain ⟨y5, b5⟩ := zeros_made (by simpa using hown5) hgrow5
  have S5 := hide ((unhide S4).below b5)
  have L5 := hide ((unhide L4).below b5)
  have B5 := hide ((unhide B4).trans (b5.mono (unhide B4).size))
  have Y5 := hide y5
  have s5 : w1'.heap.size ≤ w5.heap.size := Nat.le_trans s4 b5.size
  clear y5 b5 hown5 hgrow5 L4 S4 B4 hni
  by_cases hk : k ≤ 1
  · go_wp2_with fail
    refine (nappend w1'.heap.size l w1'.heap.size q4 131072 0 1 13 [[102, 105, 114, 115, 116]] g a _ N N (zeros N) (zeros_length N) w5 (unhide L5) (unhide S5) z1 s5 rfl (by decide) (unhide Y5) (fun h => by cases h) (Nat.le_refl _) (by have := unhide HNN; omega) (by decide) (by have := unhide HNN; omega)).mono ?_
    rintro e w6 ⟨q6, rfl, l6, k6, _⟩
    have S6 := hide ((unhide S5).keptd k6 z1)
    have B6 := hide ((unhide B5).trans (k6.1.mono s1))
    have L6 := hide l6
    have FX := hide (fit_zeros (n := N) (by have := unhide HNN; omega))
    have TX : Hid (takes ([[102, 105, 114, 115, 116]] ++ [zeros N]) = 13 + (8 + N)) := by show _ = _; rw [takes_snoc, zeros_length]; rfl
    clear l6 k6 L5 S5 B5 Y5

    go_wp2_with fail
    refine (within_at room 40 r0 (unhide ER) w6 (by omega) (by omega)).mono ?_
    rintro e w6' ⟨rfl, rfl⟩
    go_wp2_with fail
    rw [show (1 : Int) + (r0 : Int) = ((r0 + 1 : Nat) : Int) by omega]
    refine (new_ok (r0 + 1) w6' (by omega) (by omega)).mono ?_
    rintro e w7 ⟨rfl, t7, b7⟩
    have s7 := b7.size
    have S7 := hide ((unhide S6).below b7)
    have B7 := hide b7
    have z6 : 4 ≤ w6'.heap.size := (unhide S6).low
    have HC7 := hide (nopen w6'.heap.size w6'.heap.size none (r0 + 1) 0 0 0 [] g a w7 t7 (unhide S7) s7 Fit.nil rfl (by omega))
    clear t7 b7
    go_wp2_with fail
    refine (unhide HC7).mono ?_
    rintro e w8 ⟨l', rfl, hl', l8, b8⟩
    have s8 : w6'.heap.size ≤ w8.heap.size := Nat.le_trans s7 b8.size
    have S8 := hide ((unhide S7).below b8)
    have B8 := hide ((unhide B7).trans (b8.mono s7))
    have L8 := hide l8
    clear l8 b8 HC7
    go_wp2_with (at_make; refine wpList_make_full _ rfl _ _ 32 rfl w6'.heap.size 5 i0 (.int .u8 0) 1 Tryd.underlying32 hi hz0 hz1 .i64 .i64 _ _ 20 rfl rfl rfl rfl (by rw [hz2]; omega) (by unfold maxLen; omega) s8 ?_)
    intro w9 hown9 hgrow9
    obtain ⟨y9, b9⟩ := zeros_made (by simpa using hown9) hgrow9
    have S9 := hide ((unhide S8).below b9)
    have L9 := hide ((unhide L8).below b9)
    have B9 := hide ((unhide B8).trans (b9.mono s8))
    have Y9 := hide y9
    have s9 : w6'.heap.size ≤ w9.heap.size := Nat.le_trans s8 b9.size
    clear y9 b9 hown9 hgrow9 L8 S8 B8
    by_cases hf : 28 ≤ r0 + 1
    · go_wp2_with fail
      refine (nappend w6'.heap.size l' w6'.heap.size none (r0 + 1) 0 0 0 [] g a _ 20 20 (zeros 20) (zeros_length 20) w9 (unhide L9) (unhide S9) z6 s9 rfl (by decide) (unhide Y9) (fun h => by cases h) (by decide) (by decide) (by omega) (by omega)).mono ?_
      rintro e wa ⟨qa, rfl, la, ka, _⟩
      have Ba := hide ((unhide B9).trans ka.1)
      have Sa := hide ((unhide S9).keptd ka z6)
      have La := hide la
      have sa : w6'.heap.size ≤ wa.heap.size := Nat.le_trans s9 ka.size
      clear la ka
      go_wp2_with fail
      refine (within_at room 40 r0 (unhide ER) wa (by omega) (by omega)).mono ?_
      rintro e wa' ⟨rfl, rfl⟩
      go_wp2_with fail
      refine (nall w1'.heap.size l w1'.heap.size q6 131072 0 _ (13 + (8 + N)) ([[102, 105, 114, 115, 116]] ++ [zeros N]) g a wa' ((unhide L6).below (unhide Ba)) (unhide Sa) (unhide FX) (unhide TX) (by decide) 2 rfl).mono ?_
      rintro e wb ⟨aob, capb, rfl, _, _, bb⟩
      have Bb := hide ((unhide Ba).trans (bb.mono sa))
      have Sb := hide ((unhide Sa).below bb)
      have Lb := hide ((unhide La).below bb)
      clear bb
      go_wp2
      go_ret
      exact ⟨rfl, (unhide B6).trans ((unhide Bb).mono (unhide B6).size)⟩
    · go_wp2_with fail
      refine (nfull w6'.heap.size l' w6'.heap.size none (r0 + 1) 0 0 0 [] g a _ 20 20 (zeros 20) (zeros_length 20) w9 (unhide L9) (unhide S9) z6 s9 rfl (by decide) (unhide Y9) (fun h => by cases h) (by decide) (by decide) (by omega) (by omega)).mono ?_
      rintro e wa ⟨qa, rfl, la, ka, _⟩
      have Ba := hide ((unhide B9).trans ka.1)
      have Sa := hide ((unhide S9).keptd ka z6)
      have La := hide la
      have sa : w6'.heap.size ≤ wa.heap.size := Nat.le_trans s9 ka.size
      clear la ka
      go_wp2_with fail
      refine (within_at room 40 r0 (unhide ER) wa (by omega) (by omega)).mono ?_
      rintro e wa' ⟨rfl, rfl⟩
      go_wp2_with fail
      refine (nall w1'.heap.size l w1'.heap.size q6 131072 0 _ (13 + (8 + N)) ([[102, 105, 114, 115, 116]] ++ [zeros N]) g a wa' ((unhide L6).below (unhide Ba)) (unhide Sa) (unhide FX) (unhide TX) (by decide) 2 rfl).mono ?_
      rintro e wb ⟨aob, capb, rfl, _, _, bb⟩
      have Bb := hide ((unhide Ba).trans (bb.mono sa))
      have Sb := hide ((unhide Sa).below bb)
      have Lb := hide ((unhide La).below bb)
      clear bb
      go_wp2_with fail
      refine (nall w6'.heap.size l' w6'.heap.size qa (r0 + 1) 0 0 0 [] g a wb (unhide Lb) (unhide Sb) Fit.nil rfl (by omega) 0 rfl).mono ?_
      rintro e wc ⟨aoc, capc, rfl, _, _, bc⟩
      have Bc := hide ((unhide Bb).trans (bc.mono (unhide Bb).size))
      clear bc
      have hd : decide ((28 : Int) ≤ 1 + (r0 : Int)) = false := decide_eq_false (by omega)
      have HD := hide hd
      clear hd
      go_wp2
      go_ret
      refine ⟨?_, (unhide B6).trans ((unhide Bc).mono (unhide B6).size)⟩
      show Ending.returned (.bool (!decide ((28 : Int) ≤ 1 + (r0 : Int)))) = _
      rw [unhide HD]; rfl
  · go_wp2_with fail
    refine (wappend_long _ _ N N w5 (by have := unhide HNN; omega)).mono ?_
    rintro e w6 ⟨rfl, b6⟩
    have S6 := hide ((unhide S5).below b6)
    have B6 := hide ((unhide B5).trans (b6.mono (unhide B5).size))
    obtain ⟨q6, hq6⟩ : ∃ q6, q4 = q6 := ⟨_, rfl⟩
    have L6 := hide ((unhide L5).below b6)
    rw [hq6] at L6
    have FX := hide fit_first
    have TX : Hid (takes [[102, 105, 114, 115, 116]] = 13) := rfl
    clear b6 L5 S5 B5 Y5 hq6

    go_wp2_with fail
    refine (within_at room 40 r0 (unhide ER) w6 (by omega) (by omega)).mono ?_
    rintro e w6' ⟨rfl, rfl⟩
    go_wp2_with fail
    rw [show (1 : Int) + (r0 : Int) = ((r0 + 1 : Nat) : Int) by omega]
    refine (new_ok (r0 + 1) w6' (by omega) (by omega)).mono ?_
    rintro e w7 ⟨rfl, t7, b7⟩
    have s7 := b7.size
    have S7 := hide ((unhide S6).below b7)
    have B7 := hide b7
    have z6 : 4 ≤ w6'.heap.size := (unhide S6).low
    have HC7 := hide (nopen w6'.heap.size w6'.heap.size none (r0 + 1) 0 0 0 [] g a w7 t7 (unhide S7) s7 Fit.nil rfl (by omega))
    clear t7 b7
    go_wp2_with fail
    refine (unhide HC7).mono ?_
    rintro e w8 ⟨l', rfl, hl', l8, b8⟩
    have s8 : w6'.heap.size ≤ w8.heap.size := Nat.le_trans s7 b8.size
    have S8 := hide ((unhide S7).below b8)
    have B8 := hide ((unhide B7).trans (b8.mono s7))
    have L8 := hide l8
    clear l8 b8 HC7
    go_wp2_with (at_make; refine wpList_make_full _ rfl _ _ 32 rfl w6'.heap.size 5 i0 (.int .u8 0) 1 Tryd.underlying32 hi hz0 hz1 .i64 .i64 _ _ 20 rfl rfl rfl rfl (by rw [hz2]; omega) (by unfold maxLen; omega) s8 ?_)
    intro w9 hown9 hgrow9
    obtain ⟨y9, b9⟩ := zeros_made (by simpa using hown9) hgrow9
    have S9 := hide ((unhide S8).below b9)
    have L9 := hide ((unhide L8).below b9)
    have B9 := hide ((unhide B8).trans (b9.mono s8))
    have Y9 := hide y9
    have s9 : w6'.heap.size ≤ w9.heap.size := Nat.le_trans s8 b9.size
    clear y9 b9 hown9 hgrow9 L8 S8 B8
    by_cases hf : 28 ≤ r0 + 1
    · go_wp2_with fail
      refine (nappend w6'.heap.size l' w6'.heap.size none (r0 + 1) 0 0 0 [] g a _ 20 20 (zeros 20) (zeros_length 20) w9 (unhide L9) (unhide S9) z6 s9 rfl (by decide) (unhide Y9) (fun h => by cases h) (by decide) (by decide) (by omega) (by omega)).mono ?_
      rintro e wa ⟨qa, rfl, la, ka, _⟩
      have Ba := hide ((unhide B9).trans ka.1)
      have Sa := hide ((unhide S9).keptd ka z6)
      have La := hide la
      have sa : w6'.heap.size ≤ wa.heap.size := Nat.le_trans s9 ka.size
      clear la ka
      go_wp2_with fail
      refine (within_at room 40 r0 (unhide ER) wa (by omega) (by omega)).mono ?_
      rintro e wa' ⟨rfl, rfl⟩
      go_wp2_with fail
      refine (nall w1'.heap.size l w1'.heap.size q6 131072 0 _ 13 [[102, 105, 114, 115, 116]] g a wa' ((unhide L6).below (unhide Ba)) (unhide Sa) (unhide FX) (unhide TX) (by decide) 1 rfl).mono ?_
      rintro e wb ⟨aob, capb, rfl, _, _, bb⟩
      have Bb := hide ((unhide Ba).trans (bb.mono sa))
      have Sb := hide ((unhide Sa).below bb)
      have Lb := hide ((unhide La).below bb)
      clear bb
      go_wp2
      go_ret
      exact ⟨rfl, (unhide B6).trans ((unhide Bb).mono (unhide B6).size)⟩
    · go_wp2_with fail
      refine (nfull w6'.heap.size l' w6'.heap.size none (r0 + 1) 0 0 0 [] g a _ 20 20 (zeros 20) (zeros_length 20) w9 (unhide L9) (unhide S9) z6 s9 rfl (by decide) (unhide Y9) (fun h => by cases h) (by decide) (by decide) (by omega) (by omega)).mono ?_
      rintro e wa ⟨qa, rfl, la, ka, _⟩
      have Ba := hide ((unhide B9).trans ka.1)
      have Sa := hide ((unhide S9).keptd ka z6)
      have La := hide la
      have sa : w6'.heap.size ≤ wa.heap.size := Nat.le_trans s9 ka.size
      clear la ka
      go_wp2_with fail
      refine (within_at room 40 r0 (unhide ER) wa (by omega) (by omega)).mono ?_
      rintro e wa' ⟨rfl, rfl⟩
      go_wp2_with fail
      refine (nall w1'.heap.size l w1'.heap.size q6 131072 0 _ 13 [[102, 105, 114, 115, 116]] g a wa' ((unhide L6).below (unhide Ba)) (unhide Sa) (unhide FX) (unhide TX) (by decide) 1 rfl).mono ?_
      rintro e wb ⟨aob, capb, rfl, _, _, bb⟩
      have Bb := hide ((unhide Ba).trans (bb.mono sa))
      have Sb := hide ((unhide Sa).below bb)
      have Lb := hide ((unhide La).below bb)
      clear bb
      go_wp2_with fail
      refine (nall w6'.heap.size l' w6'.heap.size qa (r0 + 1) 0 0 0 [] g a wb (unhide Lb) (unhide Sb) Fit.nil rfl (by omega) 0 rfl).mono ?_
      rintro e wc ⟨aoc, capc, rfl, _, _, bc⟩
      have Bc := hide ((unhide Bb).trans (bc.mono (unhide Bb).size))
      clear bc
      have hd : decide ((28 : Int) ≤ 1 + (r0 : Int)) = false := decide_eq_false (by omega)
      have HD := hide hd
      clear hd
      go_wp2
      go_ret
      refine ⟨?_, (unhide B6).trans ((unhide Bc).mono (unhide B6).size)⟩
      show Ending.returned (.bool (!decide ((28 : Int) ≤ 1 + (r0 : Int)))) = _
      rw [unhide HD]; rfl
end Go.Proofs.YtbgaedialdpljaaDoor
