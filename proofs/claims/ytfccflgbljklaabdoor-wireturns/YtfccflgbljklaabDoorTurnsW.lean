/- The walk of WireTurns. -/
import Derived.Test.YtfccflgbljklaabDoorFramed
namespace Go.Proofs.YtfccflgbljklaabDoor
open Go.RowKit

/-- a frame of which one byte was turned. -/
theorem frameOf_turned {l m : List Nat} {x y : Nat} (hl : ∀ z ∈ l, z < 256) (hm : ∀ z ∈ m, z < 256) (hx : x < 256) (hy : y < 256) (hne : x ≠ y) (hs : (l ++ x :: m).length ≤ 65536) :
    frameOf (be4 (l ++ x :: m).length ++ be4 (Sum.crc (l ++ x :: m)) ++ (l ++ y :: m)) = (11, none) := by
  have l4 : ∀ n, (be4 n).length = 4 := fun n => rfl
  have hb : ∀ z ∈ l ++ x :: m, z < 256 := by
    intro z hz
    simp only [List.mem_append, List.mem_cons] at hz
    rcases hz with h | rfl | h
    · exact hl z h
    · exact hx
    · exact hm z h
  have el : (l ++ y :: m).length = (l ++ x :: m).length := by simp
  have hc := Sum.crc_lt hb
  have hn : Sum.crc (l ++ x :: m) ≠ Sum.crc (l ++ y :: m) := fun h => hne (Sum.crc_turned hl hm hx hy h)
  generalize l ++ x :: m = p at *
  generalize l ++ y :: m = q at *
  have e : be4 p.length ++ be4 (Sum.crc p) ++ q = be4 p.length ++ (be4 (Sum.crc p) ++ q) := by simp
  have t1 : (be4 p.length ++ be4 (Sum.crc p) ++ q).take 4 = be4 p.length := by rw [e, List.take_append_of_le_length (by rw [l4]; omega), List.take_of_length_le (by rw [l4]; omega)]
  have d1 : (be4 p.length ++ be4 (Sum.crc p) ++ q).drop 4 = be4 (Sum.crc p) ++ q := by rw [e, List.drop_append_of_le_length (by rw [l4]; omega), List.drop_of_length_le (by rw [l4]; omega), List.nil_append]
  have t2 : ((be4 p.length ++ be4 (Sum.crc p) ++ q).drop 4).take 4 = be4 (Sum.crc p) := by rw [d1, List.take_append_of_le_length (by rw [l4]; omega), List.take_of_length_le (by rw [l4]; omega)]
  have d2 : (be4 p.length ++ be4 (Sum.crc p) ++ q).drop 8 = q := by
    rw [show (8 : Nat) = 4 + 4 from rfl, ← List.drop_drop, d1, List.drop_append_of_le_length (by rw [l4]; omega), List.drop_of_length_le (by rw [l4]; omega), List.nil_append]
  have j1 : joinTo 0 (be4 p.length) = p.length := join_be4 (by omega)
  have j2 : joinTo 0 (be4 (Sum.crc p)) = Sum.crc p := join_be4 hc
  have len : (be4 p.length ++ be4 (Sum.crc p) ++ q).length = 8 + p.length := by rw [e]; simp [l4]; omega
  have x : ((be4 p.length ++ be4 (Sum.crc p) ++ q).drop 8).take p.length = q := by rw [d2, List.take_of_length_le (by omega)]
  unfold frameOf
  rw [if_neg (by omega)]
  simp only [t1, t2, j1, j2, x]
  rw [if_neg (by omega), if_neg (by omega), if_pos hn]

/-- what the frame is when its byte 8 + k was turned. -/
theorem frame_set (bs : List Nat) (k y : Nat) (hk : k < bs.length) : ∃ l m, bs = l ++ bs.getD k 0 :: m ∧ (frame bs).set (8 + k) y = be4 bs.length ++ be4 (Sum.crc bs) ++ (l ++ y :: m) := by
  refine ⟨bs.take k, bs.drop (k + 1), ?_, ?_⟩
  · rw [List.getD_eq_getElem?_getD, List.getElem?_eq_getElem hk]
    simp
  · have l8 : (be4 bs.length ++ be4 (Sum.crc bs)).length = 8 := rfl
    unfold frame
    rw [List.set_append_right _ _ (by rw [l8]; omega), l8, show 8 + k - 8 = k from by omega, List.set_eq_take_append_cons_drop, if_pos hk]

theorem xor_ne {x y : Nat} (h : 0 < y) : x ≠ x ^^^ y := by
  intro e
  have : x ^^^ 0 = x ^^^ y := by simpa using e
  have := Sum.xor_cancel_left this
  omega

set_option maxRecDepth 20000 in
set_option maxHeartbeats 2000000 in
theorem turns_walk (a : Addr) (n cap : Nat) (bs : List Nat) (hn : bs.length = n) (at' : Int) (y : Nat) (hy : y < 256) (w : World) (hb : Bytes w (some a) bs) (h0 : 0 < n) (h5 : n ≤ 500) (hy0 : 0 < y) (hS : Start w) :
    Calls Tryd.prog 5 #[.slice (some a) n cap, .int .i64 at', .int .u8 y] w fun e w' => e = .returned (.bool true) ∧ Below w.heap.size w w' := by
  have q1 : ((n : Int) == 0) = false := by simp; omega
  have q2 : ((y : Int) == 0) = false := by simp; omega
  obtain ⟨k, hk⟩ : ∃ k : Nat, at' % (n : Int) = (k : Int) := ⟨(at' % n).toNat, by have := Int.emod_nonneg at' (show (n : Int) ≠ 0 by omega); omega⟩
  have hkn : k < n := by have := Int.emod_lt_of_pos at' (show (0 : Int) < n by omega); omega
  have HK := hide hk
  have HS := hide hS
  have HB := hide hb
  have HN := hide hn
  clear hk hS hb hn
  go_enter Tryd.func5, Tryd.ntmps5
  go_wp2_with fail
  refine (known_any w (unhide HS)).mono ?_
  rintro e w1 ⟨rfl, hb1⟩
  have S1 := hide ((unhide HS).below hb1)
  have B1 := hide hb1
  have s1 := hb1.size
  clear hb1
  go_wp2_with fail
  refine (frame_len a n cap bs (unhide HN) w1 ((unhide HB).below (unhide B1)) (by omega) (unhide S1)).mono ?_
  rintro e w2 ⟨v2, rfl, o2, hb2⟩
  have fl : (frame bs).length = 8 + n := by rw [frame_length, unhide HN]
  obtain ⟨g, cap2, rfl⟩ : ∃ g cap2, v2 = .slice (some ⟨g, 0, none⟩) (8 + n) cap2 := by
    rcases o2.1.2 with ⟨_, hz⟩ | ⟨g, cap2, cur, rfl, _⟩
    · omega
    · exact ⟨g, cap2, by rw [fl]⟩
  have hown2 : w2.ownsRow w1.heap.size 5 1 (.slice (some ⟨g, 0, none⟩) (8 + n) cap2) (8 + n) (u8s (frame bs)) := by rw [← fl]; rw [← fl] at o2; exact o2.1
  have hcell := hown2.cellAt (8 + k) (by omega)
  have hfz := hown2.frozenAt (8 + k)
  have hst := hown2.stored (8 + k)
  obtain ⟨x, hx⟩ : ∃ x, bs.getD k 0 = x := ⟨_, rfl⟩
  have hxl : x < 256 := by rw [← hx]; exact getD_lt (unhide HB).1 k
  have hc2 : w2.cell? ⟨g, 8 + k, none⟩ = some (.int .u8 (x : Int)) := by
    rw [hcell, ← hx]
    have l8 : (be4 bs.length ++ be4 (Sum.crc bs)).length = 8 := rfl
    have hkb : k < bs.length := by rw [unhide HN]; exact hkn
    unfold frame
    rw [u8s, List.getElem?_map, List.getElem?_append_right (by rw [l8]; omega), l8, show 8 + k - 8 = k from by omega, List.getD_eq_getElem?_getD, List.getElem?_eq_getElem hkb]; rfl
  have ex : Go.bits .xor .u8 (x : Int) (y : Int) = ((x ^^^ y : Nat) : Int) := u8_xor_nat x y hxl hy
  have S2 := hide ((unhide S1).below hb2)
  have B2 := hide ((unhide B1).trans (hb2.mono s1))
  have HST := hide hst
  have HX := hide hx
  have hg1 := (hown2.lt g rfl).1
  clear o2 hb2 hcell hst hx hown2 fl
  go_wp2_with fail
  refine (within_any at' n w2 (by omega) (by omega)).mono ?_
  rintro e w2' ⟨rfl, rfl⟩
  rw [unhide HK]
  go_wp2_with fail
  have hxy : x ^^^ y < 256 := Nat.xor_lt_two_pow (n := 8) hxl hy
  obtain ⟨l, m, eb, ef⟩ := frame_set bs k (x ^^^ y) (by rw [unhide HN]; exact hkn)
  obtain ⟨hown3, hg3⟩ := unhide HST (.int .u8 ((x ^^^ y : Nat) : Int))
  have B3 : Below w1.heap.size w2' (w2'.setCell ⟨g, 8 + k, none⟩ (.int .u8 ((x ^^^ y : Nat) : Int))) := (Below.refl _ _).setCell hg1 _
  have S3 : Start (w2'.setCell ⟨g, 8 + k, none⟩ (.int .u8 ((x ^^^ y : Nat) : Int))) := (unhide S2).upto B3 (unhide S1).2.2
  rw [unhide HX] at eb
  have hbb := (unhide HB).1
  rw [eb] at hbb
  have hlb : ∀ z ∈ l, z < 256 := fun z hz => hbb z (by simp [hz])
  have hmb : ∀ z ∈ m, z < 256 := fun z hz => hbb z (by simp [hz])
  have hft := frameOf_turned hlb hmb hxl hxy (xor_ne hy0) (by rw [← eb, unhide HN]; omega)
  rw [← eb, ← ef] at hft
  have eset : (u8s (frame bs)).set (8 + k) (.int .u8 ((x ^^^ y : Nat) : Int)) = u8s ((frame bs).set (8 + k) (x ^^^ y)) := by rw [u8s, u8s, List.map_set]
  have fl3 : ((frame bs).set (8 + k) (x ^^^ y)).length = 8 + n := by rw [List.length_set, frame_length, unhide HN]
  have o3 : Own w1.heap.size (w2'.setCell ⟨g, 8 + k, none⟩ (.int .u8 ((x ^^^ y : Nat) : Int))) (.slice (some ⟨g, 0, none⟩) (8 + n) cap2) ((frame bs).set (8 + k) (x ^^^ y)) := by
    refine ⟨?_, ?_⟩
    · rw [fl3, ← eset]; exact hown3
    · intro z hz
      rcases List.mem_or_eq_of_mem_set hz with h | h
      · simp only [frame, List.append_assoc, List.mem_append] at h
        rcases h with h | h | h
        · exact be4_lt _ z h
        · exact be4_lt _ z h
        · exact (unhide HB).1 z h
      · omega
  obtain ⟨ao3, cap3, ev3, hcap3, _, hby3, _⟩ := o3.slice
  simp only [Value.slice.injEq] at ev3
  obtain ⟨rfl, _, rfl⟩ := ev3
  refine (split_len _ (8 + n) cap2 _ fl3 _ hby3 (by rw [← fl3]; exact hcap3) (by omega) S3).mono ?_
  rintro e w4 ⟨fv, vs, rfl, ho4, hr4, hb4⟩
  rw [splitOf_none hft (by omega)] at hr4 ⊢
  have evs : vs = [] := List.eq_nil_of_length_eq_zero hr4.1
  subst evs
  obtain ⟨aof, capf, rfl⟩ : ∃ aof capf, fv = .slice aof 0 capf := by
    rcases ho4.2 with ⟨rfl, _⟩ | ⟨g, cap, cur, rfl, _⟩
    · exact ⟨_, _, rfl⟩
    · exact ⟨_, _, rfl⟩
  have B4 := hide (((unhide B2).trans (B3.mono s1)).trans (hb4.mono (Nat.le_trans (unhide B2).size B3.size)))
  clear hb4 hr4 ho4 hby3 o3 hown3 hg3 B3 S3 hft hcap3 eb ef eset fl3 hc2 hfz
  go_wp2
  go_ret
  exact ⟨rfl, unhide B4⟩

theorem turns_skip (ao : Option Addr) (n cap : Nat) (at' : Int) (y : Nat) (w : World) (h : n = 0 ∨ 500 < n ∨ y = 0) (hS : Start w) :
    Calls Tryd.prog 5 #[.slice ao n cap, .int .i64 at', .int .u8 y] w fun e w' => e = .returned (.bool true) ∧ Below w.heap.size w w' := by
  have HS := hide hS
  clear hS
  by_cases h1 : n = 0
  · subst h1
    clear h
    go_enter Tryd.func5, Tryd.ntmps5
    go_wp2_with fail
    refine (known_any w (unhide HS)).mono ?_
    rintro e w1 ⟨rfl, hb1⟩
    go_wp2
    go_ret
    exact ⟨rfl, hb1⟩
  have q1 : ((n : Int) == 0) = false := by simp; omega
  by_cases h2 : 500 < n
  · have h2' : (500 : Int) < n := by omega
    clear h
    go_enter Tryd.func5, Tryd.ntmps5
    go_wp2_with fail
    refine (known_any w (unhide HS)).mono ?_
    rintro e w1 ⟨rfl, hb1⟩
    go_wp2
    go_ret
    exact ⟨rfl, hb1⟩
  · obtain rfl : y = 0 := by omega
    have h2' : ¬ (500 : Int) < n := by omega
    clear h
    go_enter Tryd.func5, Tryd.ntmps5
    go_wp2_with fail
    refine (known_any w (unhide HS)).mono ?_
    rintro e w1 ⟨rfl, hb1⟩
    go_wp2
    go_ret
    exact ⟨rfl, hb1⟩
end Go.Proofs.YtfccflgbljklaabDoor
