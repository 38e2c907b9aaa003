/- CellsMany: the law. -/
import Derived.Test.YtaggbpfpheffpaaGreatDoorCManW
namespace Go.Proofs.YtaggbpfpheffpaaGreatDoor
open Go.RowKit Go.Maps

theorem rem_nat (k n : Nat) : ((k : Int).tmod (n : Int)) = ((k % n : Nat) : Int) := by
  rw [Int.tmod_eq_emod_of_nonneg (by omega)]; omega
theorem zero_head {m : Nat} (h : 0 < m) : (u8s (zeros m)).toArray[0]? = some (.int .u8 0) := by
  obtain ⟨j, rfl⟩ : ∃ j, m = j + 1 := ⟨m - 1, by omega⟩
  rfl
theorem set_head (k m : Nat) (h : 0 < m) : (u8s (zeros m)).toArray.setIfInBounds 0 (.int .u8 (k : Int)) = (u8s (bsOf k m)).toArray := by
  obtain ⟨j, rfl⟩ : ∃ j, m = j + 1 := ⟨m - 1, by omega⟩
  unfold bsOf
  rw [if_neg (by omega)]
  rfl

set_option maxRecDepth 20000 in
set_option maxHeartbeats 8000000 in
theorem many_walk (n : Int) (ay : Option Addr) (ny cy : Nat) (ys : List Int) (hy : ys.length = ny) (hmax : ny ≤ maxLen) (g a : Addr) (w : World) (hS : Start w g a) (hY : Nums w ay ys) :
    Calls Tryz.prog 5 #[.int .i64 n, .slice ay ny cy] w fun ev w' => ev = .returned (.bool true) ∧ Below w.heap.size w w' := by
  have hmm' : ny ≤ 9223372036854775807 := hmax
  have HS := hide hS
  have hz := hS.low
  obtain ⟨N, hN⟩ : ∃ N : Nat, n % 120 = (N : Int) := ⟨(n % 120).toNat, by have := Int.emod_nonneg n (show (120 : Int) ≠ 0 by decide); omega⟩
  have hN120 : N < 120 := by have := Int.emod_lt_of_pos n (show (0 : Int) < 120 by decide); omega
  have WN := hide (fun w0 => within_at n 120 N hN w0 (by decide) (by decide))
  have KN := hide (cknown_any g a w hS)
  have HY := hide hY
  have EY := hide hy
  clear hS hN hY hy hmax
  go_enter Tryz.func5, Tryz.ntmps5
  go_wp2_with fail
  refine (unhide KN).mono ?_
  rintro e w0 ⟨rfl, b0⟩
  have s0 := b0.size
  have B0 := hide b0
  have S0 := hide ((unhide HS).below b0)
  have hz0 : 4 ≤ w0.heap.size := Nat.le_trans hz s0
  clear b0 KN HS
  go_wp2_with fail
  refine (new_ok 400000 w0 (by decide) (by decide)).mono ?_
  rintro e w1 ⟨rfl, t1, b1⟩
  have HC := hide (gfirst w0 w1 t1 ((unhide S0).below b1) b1.size b1)
  have B1 := hide b1
  clear t1 b1 S0
  go_wp2_with fail
  refine (unhide HC).mono ?_
  rintro e w2 ⟨cp, l, rfl, g2, -⟩
  have G2 := hide g2
  clear g2 HC B1
  have LY := hide (fun (Y : World) (h : Below w0.heap.size w0 Y) => ((unhide HY).below (unhide B0)).below h)
  have BG := hide (fun (Y : World) (f : Int → List Nat) (k : Nat) (h : Good w0.heap.size w0 Y cp l w0.heap.size g a f k) => show Below w0.heap.size w0 Y ∧ w0.heap.size ≤ Y.heap.size from by
    obtain ⟨_, _, _, _, _, _, _, _, _, _, _, _, _, h9, h10⟩ := h
    exact ⟨h9, h10⟩)
  by_cases hy0 : ny = 0
  · subst hy0
    go_wp2
    go_ret
    exact ⟨rfl, (unhide B0).trans ((unhide BG _ _ _ (unhide G2)).1.mono s0)⟩
  have hy0' : ((ny : Int) == 0) = false := by simp; omega
  go_wp2_with fail
  refine (unhide WN w2).mono ?_
  rintro e wq ⟨rfl, hw⟩
  replace hw := hw.symm
  subst hw
  clear WN
  go_wp2_with fail
  go_loopw [9, 10, 11] (fun i _ _ wr => ∃ (k : Nat) (f : Int → List Nat), k ≤ N ∧ i = .int .i64 k ∧ Good w0.heap.size w0 wr cp l w0.heap.size g a f k) (fun i _ _ _ => N - (intOf i).toNat)
  case atStart => exact ⟨0, noF, Nat.zero_le _, rfl, unhide G2⟩
  case round =>
    obtain ⟨k, f, hk, rfl, hg⟩ := hrel
    have HG := hide hg
    have hbel := unhide BG _ _ _ hg
    have BEL := hide hbel
    clear hg hbel
    by_cases hlt : k < N
    · have q : (k : Int) < N := by omega
      have hrem := rem_nat k ny
      have hrem8 : (k : Int).tmod 8 = ((k % 8 : Nat) : Int) := rem_nat k 8
      have hj : k % ny < ys.length := by rw [unhide EY]; exact Nat.mod_lt _ (by omega)
      have h8 : k % 8 < 8 := Nat.mod_lt _ (by decide)
      obtain ⟨j, hjj⟩ : ∃ j, k % ny = j := ⟨_, rfl⟩
      obtain ⟨x, hxx⟩ : ∃ x, k % 8 = x := ⟨_, rfl⟩
      rw [hjj] at hrem hj
      rw [hxx] at hrem8 h8
      obtain ⟨a1, ha1, h1, -, -⟩ := unhide LY _ (unhide BEL).1 j hj
      subst ha1
      have hjn : (j : Int) < ny := by have := unhide EY; omega
      obtain ⟨m, hm, WM⟩ := within_nat (ys.getD j 0) 12001 wr (by decide) (by decide)
      obtain ⟨z, hzz⟩ : ∃ z, ys.getD j 0 = z := ⟨_, rfl⟩
      rw [hzz] at h1 WM
      have WM' := hide WM
      obtain ⟨Z, hZ⟩ : ∃ Z : Array Value, (u8s (zeros m)).toArray = Z := ⟨_, rfl⟩
      have hmk : ∀ w' : World, (Instr.makeSlice 38 (.int .i64 (m : Int)) (.int .i64 (m : Int))).run Tryz.prog w' = .ok (.slice (some ⟨w'.heap.size, 0, none⟩) m m) (w'.alloc (.cells Z 5)) := fun w' => by
        obtain ⟨i0, hi, hz0, hz1, hz2⟩ := info_parts Tryz.info5
        have h := run_makeSlice (P := Tryz.prog) w' 38 5 i0 (.int .u8 0) Tryz.underlying38 hi hz0 .i64 .i64 (m : Int) (m : Int) (by omega) (Int.le_refl _) (by rw [hz1]; omega) (by rw [hz2]; omega) (by omega)
        rw [hz1, Nat.mul_one, Int.toNat_natCast] at h
        rw [h, ← hZ, made_zeros]
      obtain ⟨W1, hW1⟩ : ∃ W1, wr.alloc (.cells Z 5) = W1 := ⟨_, rfl⟩
      have b1 : Below wr.heap.size wr W1 := by rw [← hW1]; exact (Below.refl _ wr).alloc (Nat.le_refl _) _
      have x1 : W1.heap[wr.heap.size]? = some (.cells Z 5 (0, 0)) := by rw [← hW1]; exact heap_alloc_new _ _
      have HW1 := hide hW1
      have X1 := hide x1
      have G1 := hide ((unhide HG).below b1)
      have HZ := hide hZ
      have hk256 : k < 256 := by omega
      have B1 := hide b1
      have HG2 := HG
      clear hW1 x1 b1 hzz hjj hZ WM HG
      obtain ⟨bs, hbs⟩ : ∃ bs, bsOf k m = bs := ⟨_, rfl⟩
      have BL : Hid (bs.length = m) := by rw [← hbs]; exact bs_len k m
      have BT : Hid (∀ y ∈ bs, y < 256) := by rw [← hbs]; exact bs_lt hk256
      go_upto_region 13 with (refine (unhide WM').mono ?_; rintro e wq ⟨rfl, hw⟩; replace hw := hw.symm; subst hw)
      rw [unhide HW1]
      clear HW1 WM' h1 hmk
      by_cases hm0 : m = 0
      · have XB : Hid (W1.heap[wr.heap.size]? = some (.cells (u8s bs).toArray 5 (0, 0))) := by rw [← hbs, hm0]; rw [hm0] at HZ; rw [show bsOf k 0 = zeros 0 from rfl, unhide HZ]; exact unhide X1
        obtain ⟨V, hV⟩ : ∃ V, W1 = V := ⟨_, rfl⟩
        have hm0' : ¬ (0 : Int) < (m : Int) := by omega
        have GV := G1
        rw [hV] at XB GV ⊢
        clear hV hbs X1 HZ hm0
        go_upto_region 15 with fail
        clear hm0'
        obtain ⟨U, hU⟩ : ∃ U, V.drew.alloc (.cells #[.int .i64 (x : Int), .slice (some ⟨wr.heap.size, 0, none⟩) m m] 40) = U := ⟨_, rfl⟩
        have bU : Below V.heap.size V U := by rw [← hU]; exact ((Below.refl _ V).drew).alloc (Nat.le_refl _) _
        have yV : Bytes V.drew (some ⟨wr.heap.size, 0, none⟩) bs := bytes_block (unhide XB) (unhide BT)
        have aU : CAt U (some ⟨V.heap.size, 0, none⟩) [((x : Int), bs)] := by rw [← hU]; exact cat_one V.drew (x : Int) _ m m bs (unhide BL) yV (fun h => by cases h) (Nat.le_refl _)
        have xU := (bU.block _ (blk_lt' (unhide XB))).trans (unhide XB)
        have GU := hide ((unhide GV).below bU)
        have XU := hide xU
        have PU := hide (gput (x : Int) (by omega) bs (by rw [unhide BL]; omega) (some ⟨V.heap.size, 0, none⟩) 1 (by omega) hz0 U (unhide GU) aU)
        rw [← hU] at PU
        have HU := hide hU
        obtain ⟨sb, hsb⟩ : ∃ sb, str bs = sb := ⟨_, rfl⟩
        have HSB := hide hsb
        clear hU bU yV aU xU hsb GV XB
        first
        | (go_region_held_law (fun _ => True)
            (first | exact trivial)
            (first
              | (go_at_call 14
                 refine (unhide PU).mono ?_
                 rintro e wz ⟨rfl, gz, kz⟩
                 have GZ := hide gz
                 have XZ := hide ((unhide GU).bytes (unhide XU) (by rw [← unhide HU]; exact kz))
                 have SZ := hide (gsize wz gz)
                 clear gz kz PU)
              | (go_at_call 17
                 refine (unhide SZ).mono ?_
                 rintro e wq ⟨n6, hn6, rfl, hw⟩
                 replace hw := hw.symm
                 subst hw
                 have hn6' : decide ((200000 : Int) < (n6 : Int)) = false := decide_eq_false (by omega)
                 have cbz := conv_str (n := m) (cap := m) (bytes_block (unhide XZ) (unhide BT)) (unhide BL)
                 rw [unhide HSB] at cbz
                 have GE := hide (gget (x : Int) (by omega) wz (unhide GZ))
                 rw [set_at] at GE
                 clear SZ)
              | (go_at_call 22
                 refine (unhide GE).mono ?_
                 rintro e w7 ⟨v7, rfl, o7, b7⟩
                 obtain ⟨a7, c7, rfl, -, -, y7, -, -⟩ := o7.slice
                 have G7 := hide ((unhide GZ).below b7)
                 have cv7 := conv_str (n := m) (cap := c7) y7 (unhide BL)
                 have cb7 := conv_str (n := m) (cap := m) (bytes_block ((b7.block _ (blk_lt' (unhide XZ))).trans (unhide XZ)) (unhide BT)) (unhide BL)
                 rw [unhide HSB] at cv7 cb7
                 have el7 := unhide BL
                 rw [el7]
                 clear el7 o7 b7 y7 GE)))
        | fail
        all_goals
          go_wp2
          go_roundw
          case rel => exact ⟨k + 1, _, by omega, by go_num, unhide G7⟩
          case measure => simp [intOf]; omega
      · have hm0' : (0 : Int) < (m : Int) := by omega
        have x0 : W1.cell? ⟨wr.heap.size, 0, none⟩ = some (.int .u8 0) := (cell_of_block (unhide X1)).trans (by rw [← unhide HZ]; exact zero_head (by omega))
        have fr0 : W1.frozen? ⟨wr.heap.size, 0, none⟩ = false := free_of_block (unhide X1)
        have hc8 : IntKind.u8.wrap (k : Int) = (k : Int) := by rw [IntKind.wrap_u8]; omega
        obtain ⟨V, hV⟩ : ∃ V, W1.setCell ⟨wr.heap.size, 0, none⟩ (.int .u8 (k : Int)) = V := ⟨_, rfl⟩
        have XB : Hid (V.heap[wr.heap.size]? = some (.cells (u8s bs).toArray 5 (0, 0))) := by
          rw [← hV, ← hbs, ← set_head k m (by omega), unhide HZ]
          exact setCell_block (unhide X1)
        have BV : Below wr.heap.size wr V := by rw [← hV]; exact (unhide B1).setCell (Nat.le_refl _) _
        have GV := hide ((unhide HG2).below BV)
        have HVV := hide hV
        clear hV hbs X1 HZ hm0 BV
        go_upto_region 15 with fail
        rw [unhide HVV]
        clear HVV hm0' x0 fr0 hc8
        obtain ⟨U, hU⟩ : ∃ U, V.drew.alloc (.cells #[.int .i64 (x : Int), .slice (some ⟨wr.heap.size, 0, none⟩) m m] 40) = U := ⟨_, rfl⟩
        have bU : Below V.heap.size V U := by rw [← hU]; exact ((Below.refl _ V).drew).alloc (Nat.le_refl _) _
        have yV : Bytes V.drew (some ⟨wr.heap.size, 0, none⟩) bs := bytes_block (unhide XB) (unhide BT)
        have aU : CAt U (some ⟨V.heap.size, 0, none⟩) [((x : Int), bs)] := by rw [← hU]; exact cat_one V.drew (x : Int) _ m m bs (unhide BL) yV (fun h => by cases h) (Nat.le_refl _)
        have xU := (bU.block _ (blk_lt' (unhide XB))).trans (unhide XB)
        have GU := hide ((unhide GV).below bU)
        have XU := hide xU
        have PU := hide (gput (x : Int) (by omega) bs (by rw [unhide BL]; omega) (some ⟨V.heap.size, 0, none⟩) 1 (by omega) hz0 U (unhide GU) aU)
        rw [← hU] at PU
        have HU := hide hU
        obtain ⟨sb, hsb⟩ : ∃ sb, str bs = sb := ⟨_, rfl⟩
        have HSB := hide hsb
        clear hU bU yV aU xU hsb GV XB
        first
        | (go_region_held_law (fun _ => True)
            (first | exact trivial)
            (first
              | (go_at_call 14
                 refine (unhide PU).mono ?_
                 rintro e wz ⟨rfl, gz, kz⟩
                 have GZ := hide gz
                 have XZ := hide ((unhide GU).bytes (unhide XU) (by rw [← unhide HU]; exact kz))
                 have SZ := hide (gsize wz gz)
                 clear gz kz PU)
              | (go_at_call 17
                 refine (unhide SZ).mono ?_
                 rintro e wq ⟨n6, hn6, rfl, hw⟩
                 replace hw := hw.symm
                 subst hw
                 have hn6' : decide ((200000 : Int) < (n6 : Int)) = false := decide_eq_false (by omega)
                 have cbz := conv_str (n := m) (cap := m) (bytes_block (unhide XZ) (unhide BT)) (unhide BL)
                 rw [unhide HSB] at cbz
                 have GE := hide (gget (x : Int) (by omega) wz (unhide GZ))
                 rw [set_at] at GE
                 clear SZ)
              | (go_at_call 22
                 refine (unhide GE).mono ?_
                 rintro e w7 ⟨v7, rfl, o7, b7⟩
                 obtain ⟨a7, c7, rfl, -, -, y7, -, -⟩ := o7.slice
                 have G7 := hide ((unhide GZ).below b7)
                 have cv7 := conv_str (n := m) (cap := c7) y7 (unhide BL)
                 have cb7 := conv_str (n := m) (cap := m) (bytes_block ((b7.block _ (blk_lt' (unhide XZ))).trans (unhide XZ)) (unhide BT)) (unhide BL)
                 rw [unhide HSB] at cv7 cb7
                 have el7 := unhide BL
                 rw [el7]
                 clear el7 o7 b7 y7 GE)))
        | fail
        all_goals
          go_wp2
          go_roundw
          case rel => exact ⟨k + 1, _, by omega, by go_num, unhide G7⟩
          case measure => simp [intOf]; omega
    · obtain rfl : k = N := by omega
      have OP := hide (gopen wr (unhide HG))
      obtain ⟨Lc, hLc⟩ : ∃ Lc, (cellsOf f).length = Lc := ⟨_, rfl⟩
      have HLC := hide hLc
      clear hLc HG
      go_wp2_with fail
      refine (unhide OP).mono ?_
      rintro e w5 ⟨cp', l', rfl, g5, g5', b5⟩
      have A1 := hide (gall (by omega) w5 g5')
      rw [unhide HLC] at A1
      have G5 := hide g5
      clear g5 g5' b5 OP
      go_wp2_with fail
      refine (unhide A1).mono ?_
      rintro e w6 ⟨a6, c6, rfl, b6⟩
      have G6 := hide ((unhide G5).below b6)
      have A2 := hide (gall (by omega) w6 (unhide G6))
      rw [unhide HLC] at A2
      clear b6 A1 G5
      go_wp2_with fail
      refine (unhide A2).mono ?_
      rintro e w7 ⟨a7, c7, rfl, b7⟩
      have G7 := hide ((unhide G6).below b7)
      clear b7 A2 G6
      go_wp2
      go_ret
      exact ⟨by simp, (unhide B0).trans ((unhide BG _ _ _ (unhide G7)).1.mono s0)⟩
end Go.Proofs.YtaggbpfpheffpaaGreatDoor
