/- The walk of WireBounds. -/
import Derived.Test.YtghmbfibodehlaaDoorBounds
import Derived.Deep.DeepCutAuto
import Derived.Deep.CutBlock
namespace Go.Proofs.YtghmbfibodehlaaDoor
open Go.RowKit

theorem refuse_hi {q : Nat} {n : Int} (h : ((rule q).2.1 : Int) < n) : refuse q n = (rule q).2.2 := by unfold refuse; rw [if_pos (Or.inr h)]
theorem refuse_in {q : Nat} {n : Int} (h1 : ((rule q).1 : Int) ≤ n) (h2 : n ≤ ((rule q).2.1 : Int)) : refuse q n = 0 := by unfold refuse; rw [if_neg (by omega)]

theorem set_size (w : World) (a : Addr) (u : Value) : (w.setCell a u).heap.size = w.heap.size := by simp [World.setCell]
theorem set_new (w : World) (a : Addr) (u : Value) (o : Obj) : ((w.setCell a u).alloc o).heap[w.heap.size]? = some o := by
  have h := heap_alloc_new (w.setCell a u) o
  rw [set_size] at h; exact h
theorem firstOf_zero (l : List Nat) : firstOf (0 :: l) = firstOf l := by simp [firstOf]
theorem firstOf_some (n : Nat) (l : List Nat) (h : n ≠ 0) : firstOf (n :: l) = n := by simp [firstOf, h]
section
variable (z : ByteArray) (hz : z.size = 16) (k : Nat)
theorem err_ok (hz : z.size = 16) : (putEntry 4 0 0 z (List.replicate 9 0) 2 ([], 0)).2 = 0 := by
  rw [putEntry_err, hz]; decide
theorem err_kind : (putEntry (4 + (1 + (k : Int))) 0 0 z (List.replicate 9 0) 2 ([], 0)).2 = 3 := by
  rw [putEntry_err, firstOf_zero, show refuse 0 (4 + (1 + (k : Int))) = 3 from refuse_hi (by show (4 : Int) < _; omega)]; exact firstOf_some _ _ (by decide)
theorem err_to (hz : z.size = 16) : (putEntry 4 0 0 z (List.replicate 9 0) (2 + (1 + (k : Int))) ([], 0)).2 = 3 := by
  rw [putEntry_err, hz, firstOf_zero, show refuse 1 (2 + (1 + (k : Int))) = 3 from refuse_hi (by show (2 : Int) < _; omega)]; decide
theorem err_many (hz : z.size = 16) : (putEntry 4 0 0 z (List.replicate (k + 10) 0) 2 ([], 0)).2 = 4 := by
  rw [putEntry_err, hz, firstOf_zero, List.length_replicate, show refuse 5 ((k + 10 : Nat) : Int) = 4 from refuse_hi (by show (9 : Int) < _; omega)]; decide
theorem err_long (hz : z.size = k + 17) : (putEntry 4 0 0 z (List.replicate 9 0) 2 ([], 0)).2 = 5 := by
  rw [putEntry_err, hz, firstOf_zero, show refuse 4 ((k + 17 : Nat) : Int) = 5 from refuse_hi (by show (16 : Int) < _; omega)]; decide
theorem merr_ok : (putMsg 0 0 0 15 0 0 0 0 false (List.replicate 64 0) (List.replicate 64 zeroE) [] [] ([], 0)).2 = 0 := by
  rw [putMsg_err, List.length_replicate]; decide
theorem merr_kind : (putMsg 0 0 0 (15 + (1 + (k : Int))) 0 0 0 0 false (List.replicate 64 0) (List.replicate 64 zeroE) [] [] ([], 0)).2 = 3 := by
  rw [putMsg_err, show refuse 2 (15 + (1 + (k : Int))) = 3 from refuse_hi (by show (15 : Int) < _; omega)]; exact firstOf_some _ _ (by decide)
theorem merr_terms : (putMsg 0 0 0 15 0 0 0 0 false (List.replicate (k + 65) 0) (List.replicate 64 zeroE) [] [] ([], 0)).2 = 4 := by
  rw [putMsg_err, List.length_replicate, show refuse 6 ((k + 65 : Nat) : Int) = 4 from refuse_hi (by show (64 : Int) < _; omega)]; decide
theorem merr_ents : (putMsg 0 0 0 15 0 0 0 0 false (List.replicate 64 0) (List.replicate (k + 65) zeroE) [] [] ([], 0)).2 = 4 := by
  rw [putMsg_err, List.length_replicate, show refuse 6 ((k + 65 : Nat) : Int) = 4 from refuse_hi (by show (64 : Int) < _; omega)]; decide
theorem cerr : (putConfig [] (List.replicate (k + 10) 0) ([], 0)).2 = 4 := by
  rw [putConfig_err]; exact refuse_hi (by show (9 : Int) < _; omega)
end
theorem ints_none (base : Nat) (w : World) : Ints base [5, 106] w none [] := fun i hi => by simp at hi
/-- the blocks that the statement makes. -/
structure Bks (w : World) (A9 A64 E64 : Array Value) (z : ByteArray) (bx bm mx bt be : Nat) : Prop where
  bx : w.heap[bx]? = some (.cells #[.int .i64 4, .int .i64 0, .int .i64 0, .string z, .slice (some ⟨bm, 0, none⟩) 9 9, .int .i64 2] 24 (0, 0))
  bm : w.heap[bm]? = some (.cells A9 3 (0, 0))
  mx : w.heap[mx]? = some (.cells #[.int .i64 0, .int .i64 0, .int .i64 0, .int .i64 15, .int .i64 0, .int .i64 0, .int .i64 0, .int .i64 0, .bool false, .slice (some ⟨bt, 0, none⟩) 64 64, .slice (some ⟨be, 0, none⟩) 64 64, .slice none 0 0, .slice none 0 0] 41 (0, 0))
  bt : w.heap[bt]? = some (.cells A64 3 (0, 0))
  be : w.heap[be]? = some (.cells E64 24 (0, 0))
section
variable {w w' : World} {A9 A64 E64 : Array Value} {z : ByteArray} {bx bm mx bt be : Nat} (h : Bks w A9 A64 E64 z bx bm mx bt be)
include h
theorem Bks.below (hb : Below w.heap.size w w') : Bks w' A9 A64 E64 z bx bm mx bt be :=
  ⟨(hb.block _ (blk_lt' h.bx)).trans h.bx, (hb.block _ (blk_lt' h.bm)).trans h.bm, (hb.block _ (blk_lt' h.mx)).trans h.mx, (hb.block _ (blk_lt' h.bt)).trans h.bt, (hb.block _ (blk_lt' h.be)).trans h.be⟩
theorem Bks.ne1 : bm ≠ bx := fun e => by have h1 := h.bm; rw [e, h.bx] at h1; cases h1
theorem Bks.ne2 : bt ≠ mx := fun e => by have h1 := h.bt; rw [e, h.mx] at h1; cases h1
theorem Bks.ne3 : be ≠ mx := fun e => by have h1 := h.be; rw [e, h.mx] at h1; cases h1
theorem Bks.x0 : w.cell? ⟨bx, 0, none⟩ = some (.int .i64 4) := (cell_of_block h.bx).trans rfl
theorem Bks.x1 : w.cell? ⟨bx, 1, none⟩ = some (.int .i64 0) := (cell_of_block h.bx).trans rfl
theorem Bks.x2 : w.cell? ⟨bx, 2, none⟩ = some (.int .i64 0) := (cell_of_block h.bx).trans rfl
theorem Bks.x3 : w.cell? ⟨bx, 3, none⟩ = some (.string z) := (cell_of_block h.bx).trans rfl
theorem Bks.x4 : w.cell? ⟨bx, 4, none⟩ = some (.slice (some ⟨bm, 0, none⟩) 9 9) := (cell_of_block h.bx).trans rfl
theorem Bks.x5 : w.cell? ⟨bx, 5, none⟩ = some (.int .i64 2) := (cell_of_block h.bx).trans rfl
theorem Bks.m0 : w.cell? ⟨mx, 0, none⟩ = some (.int .i64 0) := (cell_of_block h.mx).trans rfl
theorem Bks.m1 : w.cell? ⟨mx, 1, none⟩ = some (.int .i64 0) := (cell_of_block h.mx).trans rfl
theorem Bks.m2 : w.cell? ⟨mx, 2, none⟩ = some (.int .i64 0) := (cell_of_block h.mx).trans rfl
theorem Bks.m3 : w.cell? ⟨mx, 3, none⟩ = some (.int .i64 15) := (cell_of_block h.mx).trans rfl
theorem Bks.m4 : w.cell? ⟨mx, 4, none⟩ = some (.int .i64 0) := (cell_of_block h.mx).trans rfl
theorem Bks.m5 : w.cell? ⟨mx, 5, none⟩ = some (.int .i64 0) := (cell_of_block h.mx).trans rfl
theorem Bks.m6 : w.cell? ⟨mx, 6, none⟩ = some (.int .i64 0) := (cell_of_block h.mx).trans rfl
theorem Bks.m7 : w.cell? ⟨mx, 7, none⟩ = some (.int .i64 0) := (cell_of_block h.mx).trans rfl
theorem Bks.m8 : w.cell? ⟨mx, 8, none⟩ = some (.bool false) := (cell_of_block h.mx).trans rfl
theorem Bks.m9 : w.cell? ⟨mx, 9, none⟩ = some (.slice (some ⟨bt, 0, none⟩) 64 64) := (cell_of_block h.mx).trans rfl
theorem Bks.m10 : w.cell? ⟨mx, 10, none⟩ = some (.slice (some ⟨be, 0, none⟩) 64 64) := (cell_of_block h.mx).trans rfl
theorem Bks.m11 : w.cell? ⟨mx, 11, none⟩ = some (.slice none 0 0) := (cell_of_block h.mx).trans rfl
theorem Bks.m12 : w.cell? ⟨mx, 12, none⟩ = some (.slice none 0 0) := (cell_of_block h.mx).trans rfl
end

set_option maxRecDepth 20000 in
set_option maxHeartbeats 16000000 in
theorem bounds_walk (which by' : Int) (w : World) (hS : Start w) :
    Calls Tryd.prog 7 #[.int .i64 which, .int .i64 by'] w fun e w' => e = .returned (.bool true) ∧ Below w.heap.size w w' := by
  obtain ⟨k, ek⟩ : ∃ k : Nat, by' % 20 = (k : Int) := ⟨(by' % 20).toNat, by omega⟩
  have hk : k < 20 := by omega
  obtain ⟨c, ec⟩ : ∃ c : Nat, which % 8 = (c : Int) := ⟨(which % 8).toNat, by omega⟩
  have hc : c < 8 := by omega
  have EK := hide ek
  have EC := hide ec
  have HS := hide hS
  obtain ⟨A16, hA16⟩ : ∃ A, A = madeCells #[Value.int .u8 0] 16 := ⟨_, rfl⟩
  obtain ⟨A9, hA9⟩ : ∃ A, A = madeCells #[Value.int .i64 0] 9 := ⟨_, rfl⟩
  obtain ⟨A64, hA64⟩ : ∃ A, A = madeCells #[Value.int .i64 0] 64 := ⟨_, rfl⟩
  obtain ⟨E64, hE64⟩ : ∃ A, A = madeCells zcells (64 * 6) := ⟨_, rfl⟩
  have m16 : ∀ w, (Instr.makeSlice 27 (.int .i64 16) (.int .i64 16)).run Tryd.prog w = .ok (.slice (some ⟨w.heap.size, 0, none⟩) 16 16) (w.alloc (.cells A16 5)) := fun w => by rw [hA16]; exact make_bytes 16 (by decide) w
  have m9 : ∀ w, (Instr.makeSlice 22 (.int .i64 9) (.int .i64 9)).run Tryd.prog w = .ok (.slice (some ⟨w.heap.size, 0, none⟩) 9 9) (w.alloc (.cells A9 3)) := fun w => by rw [hA9]; exact make_ints 9 (by decide) w
  have m64 : ∀ w, (Instr.makeSlice 22 (.int .i64 64) (.int .i64 64)).run Tryd.prog w = .ok (.slice (some ⟨w.heap.size, 0, none⟩) 64 64) (w.alloc (.cells A64 3)) := fun w => by rw [hA64]; exact make_ints 64 (by decide) w
  have e64 : ∀ w, (Instr.makeSlice 37 (.int .i64 64) (.int .i64 64)).run Tryd.prog w = .ok (.slice (some ⟨w.heap.size, 0, none⟩) 64 64) (w.alloc (.cells E64 24)) := fun w => by rw [hE64]; exact make_ents 64 (by decide) w
  obtain ⟨z16, hz16⟩ : ∃ z, z = str (zeros 16) := ⟨_, rfl⟩
  have cv : ∀ (w : World) (b : Nat), w.heap[b]? = some (.cells A16 5) → (convert 27 9 (.slice (some ⟨b, 0, none⟩) 16 16)).run Tryd.prog w = .ok (.string z16) w := fun w b h => by rw [hz16]; rw [hA16] at h; exact conv_str (zeros_at h) rfl
  have c1 : ∀ (w : World) (n : Nat), w.heap.size = n → (convert 27 9 (.slice (some ⟨n, 0, none⟩) 16 16)).run Tryd.prog (w.alloc (.cells A16 5)).drew = .ok (.string z16) (w.alloc (.cells A16 5)).drew := fun w n h => cv _ _ (by rw [← h]; exact heap_alloc_new w _)
  have c2 : ∀ (w : World) (n : Nat) (o : Obj), w.heap.size = n → (convert 27 9 (.slice (some ⟨n, 0, none⟩) 16 16)).run Tryd.prog ((w.alloc (.cells A16 5)).alloc o).drew = .ok (.string z16) ((w.alloc (.cells A16 5)).alloc o).drew := fun w n o h => cv _ _ (by rw [← h]; exact (Below.heap_alloc (w.alloc _) o w.heap.size (by simp)).trans (heap_alloc_new w _))
  have c3 : ∀ (w : World) (n : Nat) (o o' : Obj), w.heap.size = n → (convert 27 9 (.slice (some ⟨n, 0, none⟩) 16 16)).run Tryd.prog (((w.alloc (.cells A16 5)).alloc o).alloc o').drew = .ok (.string z16) (((w.alloc (.cells A16 5)).alloc o).alloc o').drew := fun w n o o' h => cv _ _ (by rw [← h]; exact ((Below.heap_alloc ((w.alloc _).alloc o) o' w.heap.size (by simp; omega)).trans (Below.heap_alloc (w.alloc _) o w.heap.size (by simp))).trans (heap_alloc_new w _))
  have HA9 := hide hA9
  have HA64 := hide hA64
  have HE64 := hide hE64
  have hzs : z16.size = 16 := by rw [hz16, str_size]; rfl
  have HZS := hide hzs
  clear cv ek ec hS hA16 hA9 hA64 hE64 hz16 hzs
  go_enter Tryd.func7, Tryd.ntmps7
  go_wp2_with fail
  refine (known_any w (unhide HS)).mono ?_
  rintro e w1 ⟨rfl, b1⟩
  have B1 := hide b1
  have s1 := b1.size
  clear b1
  go_wp2_with fail
  refine (within_any by' 20 w1 (by omega) (by omega)).mono ?_
  rintro e w1' ⟨rfl, rfl⟩
  rw [unhide EK]
  go_upto_region 4 with fail
  go_cut [5] (fun ev wc => ∃ bx bm, ev = .pointer (some ⟨bx, 0, none⟩) ∧ wc.heap[bx]? = some (.cells #[.int .i64 4, .int .i64 0, .int .i64 0, .string z16, .slice (some ⟨bm, 0, none⟩) 9 9, .int .i64 2] 24 (0, 0)) ∧ wc.heap[bm]? = some (.cells A9 3 (0, 0)) ∧ Below w1'.heap.size w1' wc ∧ w1'.heap.size ≤ bx)
  case first =>
    go_region
    all_goals go_wp2
    all_goals go_meet
    all_goals first
      | exact ⟨_, _, rfl, h3a _ _ _ _, h3b _ _ _ _, h3below _ _ _ _, by omega⟩
      | exact ⟨_, _, rfl, h3a _ _ _ _, h3c _ _ _ _, h3below _ _ _ _, by omega⟩
      | exact ⟨_, _, rfl, h3b _ _ _ _, h3a _ _ _ _, h3below _ _ _ _, by omega⟩
      | exact ⟨_, _, rfl, h3b _ _ _ _, h3c _ _ _ _, h3below _ _ _ _, by omega⟩
      | exact ⟨_, _, rfl, h3c _ _ _ _, h3a _ _ _ _, h3below _ _ _ _, by omega⟩
      | exact ⟨_, _, rfl, h3c _ _ _ _, h3b _ _ _ _, h3below _ _ _ _, by omega⟩
  case rest =>
  obtain ⟨bx, bm, rfl, hbx, hbm, b2, gx⟩ := hcut
  have HBX := hide hbx
  have HBM := hide hbm
  have B2 := hide ((unhide B1).trans (b2.mono s1))
  clear hbx hbm b2 c1 c2 c3 m16
  go_upto_region 5 with fail
  go_cut [6] (fun ev wd => ∃ mx bt be, ev = .pointer (some ⟨mx, 0, none⟩) ∧ wd.heap[mx]? = some (.cells #[.int .i64 0, .int .i64 0, .int .i64 0, .int .i64 15, .int .i64 0, .int .i64 0, .int .i64 0, .int .i64 0, .bool false, .slice (some ⟨bt, 0, none⟩) 64 64, .slice (some ⟨be, 0, none⟩) 64 64, .slice none 0 0, .slice none 0 0] 41 (0, 0)) ∧ wd.heap[bt]? = some (.cells A64 3 (0, 0)) ∧ wd.heap[be]? = some (.cells E64 24 (0, 0)) ∧ Below wc.heap.size wc wd ∧ wc.heap.size ≤ mx)
  case first =>
    go_region
    all_goals go_wp2
    all_goals go_meet
    all_goals first
      | exact ⟨_, _, _, rfl, h3a _ _ _ _, h3b _ _ _ _, h3c _ _ _ _, h3below _ _ _ _, by omega⟩
      | exact ⟨_, _, _, rfl, h3a _ _ _ _, h3c _ _ _ _, h3b _ _ _ _, h3below _ _ _ _, by omega⟩
      | exact ⟨_, _, _, rfl, h3b _ _ _ _, h3a _ _ _ _, h3c _ _ _ _, h3below _ _ _ _, by omega⟩
      | exact ⟨_, _, _, rfl, h3b _ _ _ _, h3c _ _ _ _, h3a _ _ _ _, h3below _ _ _ _, by omega⟩
      | exact ⟨_, _, _, rfl, h3c _ _ _ _, h3a _ _ _ _, h3b _ _ _ _, h3below _ _ _ _, by omega⟩
      | exact ⟨_, _, _, rfl, h3c _ _ _ _, h3b _ _ _ _, h3a _ _ _ _, h3below _ _ _ _, by omega⟩
  case rest =>
  obtain ⟨mx, bt, be, rfl, hmx, hbt, hbe, b3, gmx⟩ := hcut
  obtain ⟨w3, rfl⟩ : ∃ w3, w3 = wc := ⟨_, rfl⟩
  have hbx3 : w3.heap[bx]? = some (.cells #[.int .i64 4, .int .i64 0, .int .i64 0, .string z16, .slice (some ⟨bm, 0, none⟩) 9 9, .int .i64 2] 24 (0, 0)) := by rw [b3.block bx (blk_lt' (unhide HBX))]; exact unhide HBX
  have hbm3 : w3.heap[bm]? = some (.cells A9 3 (0, 0)) := by rw [b3.block bm (blk_lt' (unhide HBM))]; exact unhide HBM
  have ge3 := Nat.le_trans (unhide B2).size gmx
  have B3 := hide ((unhide B2).trans (b3.mono (unhide B2).size))
  have bk3 : Bks w3 A9 A64 E64 z16 bx bm mx bt be := ⟨hbx3, hbm3, hmx, hbt, hbe⟩
  have BK3 := hide bk3
  have x0 := bk3.x0
  have x1 := bk3.x1
  have x2 := bk3.x2
  have x3 := bk3.x3
  have x4 := bk3.x4
  have x5 := bk3.x5
  have hee := encodeEntry_any 4 0 0 2 z16 (by rw [unhide HZS]; decide) (some ⟨bm, 0, none⟩) 9 9 (List.replicate 9 0) rfl w3 (by rw [unhide HA9] at hbm3; exact ints_cell hbm3) ((unhide HS).below (unhide B3))
  rw [err_ok z16 (unhide HZS)] at hee
  have HEE := hide hee
  clear hmx hbt hbe b3 hbx3 hbm3 bk3 hee HBX HBM B1 m9 m64 e64
  go_wp2_with fail
  refine (unhide HEE).mono ?_
  rintro e w4 ⟨v4, rfl, _, b4⟩
  have B4 := hide ((unhide B3).trans (b4.mono (unhide B3).size))
  have bk4 := (unhide BK3).below b4
  have BK4 := hide bk4
  have y0 := bk4.m0
  have y1 := bk4.m1
  have y2 := bk4.m2
  have y3 := bk4.m3
  have y4 := bk4.m4
  have y5 := bk4.m5
  have y6 := bk4.m6
  have y7 := bk4.m7
  have y8 := bk4.m8
  have y9 := bk4.m9
  have y10 := bk4.m10
  have y11 := bk4.m11
  have y12 := bk4.m12
  have hem := encodeMsg_any 0 0 0 15 0 0 0 0 false (some ⟨bt, 0, none⟩) 64 64 (List.replicate 64 0) rfl (some ⟨be, 0, none⟩) 64 64 (List.replicate 64 zeroE) rfl (by decide) none none 0 0 0 0 [] [] rfl rfl w4 (fun b w' _ _ hb => by have := (bk4.below hb).bt; rw [unhide HA64] at this; exact ints_zero this) (fun b w' _ _ hb => by have := (bk4.below hb).be; rw [unhide HE64] at this; exact ents_zero this) (fun _ _ _ _ _ => ints_none _ _) (fun _ _ _ _ _ => ints_none _ _) ((unhide HS).below (unhide B4))
  rw [merr_ok] at hem
  have HEM := hide hem
  clear b4 x0 x1 x2 x3 x4 x5 hem bk4 BK3 B3 HEE
  go_wp2_with fail
  refine (unhide HEM).mono ?_
  rintro e w5 ⟨v5, rfl, _, b5⟩
  have B5 := hide ((unhide B4).trans (b5.mono (unhide B4).size))
  have bk5 := (unhide BK4).below b5
  have BK5 := hide bk5
  clear y0 y1 y2 y3 y4 y5 y6 y7 y8 y9 y10 y11 y12 b5 bk5 BK4 B4 HEM B2
  go_wp2_with fail
  refine (within_any which 8 w5 (by omega) (by omega)).mono ?_
  rintro e w5' ⟨rfl, rfl⟩
  rw [unhide EC]
  have gbx : w.heap.size ≤ bx := Nat.le_trans s1 gx
  have fbx : ∀ i, w5'.frozen? ⟨bx, i, none⟩ = false := fun i => free_of_block (unhide BK5).bx
  have fmx : ∀ i, w5'.frozen? ⟨mx, i, none⟩ = false := fun i => free_of_block (unhide BK5).mx
  have ne1 : bm ≠ bx := (unhide BK5).ne1
  have ne2 : bt ≠ mx := (unhide BK5).ne2
  have ne3 : be ≠ mx := (unhide BK5).ne3
  have hc8 : c = 0 ∨ c = 1 ∨ c = 2 ∨ c = 3 ∨ c = 4 ∨ c = 5 ∨ c = 6 ∨ c = 7 := by omega
  have x0 := (unhide BK5).x0
  have x1 := (unhide BK5).x1
  have x2 := (unhide BK5).x2
  have x3 := (unhide BK5).x3
  have x4 := (unhide BK5).x4
  have x5 := (unhide BK5).x5
  have y0 := (unhide BK5).m0
  have y1 := (unhide BK5).m1
  have y2 := (unhide BK5).m2
  have y3 := (unhide BK5).m3
  have y4 := (unhide BK5).m4
  have y5 := (unhide BK5).m5
  have y6 := (unhide BK5).m6
  have y7 := (unhide BK5).m7
  have y8 := (unhide BK5).m8
  have y9 := (unhide BK5).m9
  have y10 := (unhide BK5).m10
  have y11 := (unhide BK5).m11
  have y12 := (unhide BK5).m12
  have lbx : bx < w5'.heap.size := blk_lt' (unhide BK5).bx
  have lmx : mx < w5'.heap.size := blk_lt' (unhide BK5).mx
  have lbm : bm < w5'.heap.size := blk_lt' (unhide BK5).bm
  have lbt : bt < w5'.heap.size := blk_lt' (unhide BK5).bt
  have lbe : be < w5'.heap.size := blk_lt' (unhide BK5).be
  have SB : ∀ i u, Below w.heap.size w (w5'.setCell ⟨bx, i, none⟩ u) := fun i u => (unhide B5).setCell (p := ⟨bx, i, none⟩) gbx u
  have SM : ∀ i u, Below w.heap.size w (w5'.setCell ⟨mx, i, none⟩ u) := fun i u => (unhide B5).setCell (p := ⟨mx, i, none⟩) ge3 u
  have HSB := hide SB
  have HSM := hide SM
  clear hc EC SB SM
  rcases hc8 with rfl | rfl | rfl | rfl | rfl | rfl | rfl | rfl
  · clear y0 y1 y2 y3 y4 y5 y6 y7 y8 y9 y10 y11 y12
    have hcall := encodeEntry_any (4 + (1 + (k : Int))) 0 0 2 z16 (by rw [unhide HZS]; decide) (some ⟨bm, 0, none⟩) 9 9 (List.replicate 9 0) rfl (w5'.setCell ⟨bx, 0, none⟩ (.int .i64 (4 + (1 + (k : Int))))) (by have h : (w5'.setCell ⟨bx, 0, none⟩ (.int .i64 (4 + (1 + (k : Int))))).heap[bm]? = _ := (Below.heap_setCell w5' ⟨bx, 0, none⟩ _ bm ne1).trans (unhide BK5).bm; rw [unhide HA9] at h; exact ints_cell h) ((unhide HS).below (unhide HSB _ _))
    rw [err_kind z16 k] at hcall
    have HCA := hide hcall
    clear hcall
    go_wp2_with fail
    refine (unhide HCA).mono ?_
    rintro e w6 ⟨v6, rfl, _, b6⟩
    have B6 := hide ((unhide HSB _ _).trans (b6.mono (unhide HSB _ _).size))
    clear b6
    go_wp2
    go_ret
    exact ⟨rfl, unhide B6⟩
  · clear y0 y1 y2 y3 y4 y5 y6 y7 y8 y9 y10 y11 y12
    obtain ⟨AK, hAK⟩ : ∃ A, A = madeCells #[Value.int .u8 0] (k + 1) := ⟨_, rfl⟩
    obtain ⟨zk, hzk⟩ : ∃ z, z = str (zeros (k + 1)) := ⟨_, rfl⟩
    have mk : ∀ w, (Instr.makeSlice 27 (.int .i64 (1 + (k : Int))) (.int .i64 (1 + (k : Int)))).run Tryd.prog w = .ok (.slice (some ⟨w.heap.size, 0, none⟩) (k + 1) (k + 1)) (w.alloc (.cells AK 5)) := fun w => by rw [hAK, show (1 : Int) + (k : Int) = ((k + 1 : Nat) : Int) by omega]; exact make_bytes (k + 1) (by omega) w
    have ck : ∀ (w : World) (n : Nat), w.heap.size = n → (convert 27 9 (.slice (some ⟨n, 0, none⟩) (k + 1) (k + 1))).run Tryd.prog (w.alloc (.cells AK 5)).drew = .ok (.string zk) (w.alloc (.cells AK 5)).drew := fun w n h => by
      have hh : (w.alloc (.cells AK 5)).drew.heap[n]? = some (.cells AK 5 (0, 0)) := by rw [← h]; exact heap_alloc_new w _
      rw [hAK] at hh
      rw [hzk, hAK]
      exact conv_str (zeros_at hh) (by simp [zeros])
    have hzk2 : zk.size = k + 1 := by rw [hzk, str_size]; simp [zeros]
    have HZK := hide hzk2
    clear hAK hzk hzk2
    have hsum : ¬ 9223372036854775807 < z16.size + zk.size := by rw [unhide HZS, unhide HZK]; omega
    go_upto_region 19 with fail
    go_region
    go_wp2_with fail
    have hbm' : ((w5'.setCell ⟨bx, 3, none⟩ (.string (z16 ++ zk))).alloc (.cells AK 5)).drew.heap[bm]? = some (.cells A9 3 (0, 0)) := (Below.heap_alloc (w5'.setCell _ _) _ bm (by rw [set_size]; exact lbm)).trans ((Below.heap_setCell w5' ⟨bx, 3, none⟩ _ bm ne1).trans (unhide BK5).bm)
    have BW : Hid (Below w.heap.size w ((w5'.setCell ⟨bx, 3, none⟩ (.string (z16 ++ zk))).alloc (.cells AK 5)).drew) := (((unhide B5).setCell (p := ⟨bx, 3, none⟩) gbx _).alloc (by rw [set_size]; exact (unhide B5).size) _).drew
    have hzz : (z16 ++ zk).size = k + 17 := by rw [ByteArray.size_append, unhide HZS, unhide HZK]; omega
    have hcall := encodeEntry_any 4 0 0 2 (z16 ++ zk) (by rw [hzz]; unfold maxLen; omega) (some ⟨bm, 0, none⟩) 9 9 (List.replicate 9 0) rfl _ (by rw [unhide HA9] at hbm'; exact ints_cell hbm') ((unhide HS).below (unhide BW))
    rw [err_long _ k hzz] at hcall
    have HCA := hide hcall
    clear hcall hbm' hzz
    refine (unhide HCA).mono ?_
    rintro e w6 ⟨v6, rfl, _, b6⟩
    have B6 := hide ((unhide BW).trans (b6.mono (unhide BW).size))
    clear b6
    go_wp2
    go_ret
    exact ⟨rfl, unhide B6⟩
  · clear y0 y1 y2 y3 y4 y5 y6 y7 y8 y9 y10 y11 y12
    obtain ⟨AM, hAM⟩ : ∃ A, A = madeCells #[Value.int .i64 0] (k + 10) := ⟨_, rfl⟩
    have mm : ∀ w, (Instr.makeSlice 22 (.int .i64 (9 + (1 + (k : Int)))) (.int .i64 (9 + (1 + (k : Int))))).run Tryd.prog w = .ok (.slice (some ⟨w.heap.size, 0, none⟩) (k + 10) (k + 10)) (w.alloc (.cells AM 3)) := fun w => by rw [hAM, show (9 : Int) + (1 + (k : Int)) = ((k + 10 : Nat) : Int) by omega]; exact make_ints (k + 10) (by omega) w
    have hbm' : ((w5'.setCell ⟨bx, 4, none⟩ (.slice (some ⟨w5'.heap.size, 0, none⟩) (k + 10) (k + 10))).alloc (.cells AM 3)).heap[w5'.heap.size]? = some (.cells AM 3 (0, 0)) := set_new w5' _ _ _
    have BW : Hid (Below w.heap.size w ((w5'.setCell ⟨bx, 4, none⟩ (.slice (some ⟨w5'.heap.size, 0, none⟩) (k + 10) (k + 10))).alloc (.cells AM 3))) := ((unhide B5).setCell (p := ⟨bx, 4, none⟩) gbx _).alloc (by rw [set_size]; exact (unhide B5).size) _
    rw [hAM] at hbm'
    have hcall := encodeEntry_any 4 0 0 2 z16 (by rw [unhide HZS]; decide) (some ⟨w5'.heap.size, 0, none⟩) (k + 10) (k + 10) (List.replicate (k + 10) 0) (by simp) _ (ints_cell hbm') ((unhide HS).below (by have := unhide BW; rw [hAM] at this; exact this))
    rw [err_many z16 k (unhide HZS), ← hAM] at hcall
    have HCA := hide hcall
    clear hcall hbm' hAM
    go_wp2_with fail
    refine (unhide HCA).mono ?_
    rintro e w6 ⟨v6, rfl, _, b6⟩
    have B6 := hide ((unhide BW).trans (b6.mono (unhide BW).size))
    clear b6
    go_wp2
    go_ret
    exact ⟨rfl, unhide B6⟩
  · clear y0 y1 y2 y3 y4 y5 y6 y7 y8 y9 y10 y11 y12
    have hcall := encodeEntry_any 4 0 0 (2 + (1 + (k : Int))) z16 (by rw [unhide HZS]; decide) (some ⟨bm, 0, none⟩) 9 9 (List.replicate 9 0) rfl (w5'.setCell ⟨bx, 5, none⟩ (.int .i64 (2 + (1 + (k : Int))))) (by have h : (w5'.setCell ⟨bx, 5, none⟩ (.int .i64 (2 + (1 + (k : Int))))).heap[bm]? = _ := (Below.heap_setCell w5' ⟨bx, 5, none⟩ _ bm ne1).trans (unhide BK5).bm; rw [unhide HA9] at h; exact ints_cell h) ((unhide HS).below (unhide HSB _ _))
    rw [err_to z16 k (unhide HZS)] at hcall
    have HCA := hide hcall
    clear hcall
    go_wp2_with fail
    refine (unhide HCA).mono ?_
    rintro e w6 ⟨v6, rfl, _, b6⟩
    have B6 := hide ((unhide HSB _ _).trans (b6.mono (unhide HSB _ _).size))
    clear b6
    go_wp2
    go_ret
    exact ⟨rfl, unhide B6⟩
  · clear x0 x1 x2 x3 x4 x5
    have hbt' : (w5'.setCell ⟨mx, 3, none⟩ (.int .i64 (15 + (1 + (k : Int))))).heap[bt]? = some (.cells A64 3 (0, 0)) := (Below.heap_setCell w5' ⟨mx, 3, none⟩ _ bt ne2).trans (unhide BK5).bt
    have hbe' : (w5'.setCell ⟨mx, 3, none⟩ (.int .i64 (15 + (1 + (k : Int))))).heap[be]? = some (.cells E64 24 (0, 0)) := (Below.heap_setCell w5' ⟨mx, 3, none⟩ _ be ne3).trans (unhide BK5).be
    rw [unhide HA64] at hbt'
    rw [unhide HE64] at hbe'
    have hcall := encodeMsg_any 0 0 0 (15 + (1 + (k : Int))) 0 0 0 0 false (some ⟨bt, 0, none⟩) 64 64 (List.replicate 64 0) rfl (some ⟨be, 0, none⟩) 64 64 (List.replicate 64 zeroE) rfl (by decide) none none 0 0 0 0 [] [] rfl rfl (w5'.setCell ⟨mx, 3, none⟩ (.int .i64 (15 + (1 + (k : Int))))) (fun b w' _ _ hb => ints_zero ((hb.block bt (blk_lt' hbt')).trans hbt')) (fun b w' _ _ hb => ents_zero ((hb.block be (blk_lt' hbe')).trans hbe')) (fun _ _ _ _ _ => ints_none _ _) (fun _ _ _ _ _ => ints_none _ _) ((unhide HS).below (unhide HSM _ _))
    rw [merr_kind k] at hcall
    have HCA := hide hcall
    clear hcall hbt' hbe'
    go_wp2_with fail
    refine (unhide HCA).mono ?_
    rintro e w6 ⟨v6, rfl, _, b6⟩
    have B6 := hide ((unhide HSM _ _).trans (b6.mono (unhide HSM _ _).size))
    clear b6
    go_wp2
    go_ret
    exact ⟨rfl, unhide B6⟩
  · clear x0 x1 x2 x3 x4 x5
    obtain ⟨AM, hAM⟩ : ∃ A, A = madeCells #[Value.int .i64 0] (k + 65) := ⟨_, rfl⟩
    have mm : ∀ w, (Instr.makeSlice 22 (.int .i64 (64 + (1 + (k : Int)))) (.int .i64 (64 + (1 + (k : Int))))).run Tryd.prog w = .ok (.slice (some ⟨w.heap.size, 0, none⟩) (k + 65) (k + 65)) (w.alloc (.cells AM 3)) := fun w => by rw [hAM, show (64 : Int) + (1 + (k : Int)) = ((k + 65 : Nat) : Int) by omega]; exact make_ints (k + 65) (by omega) w
    obtain ⟨W, hW⟩ : ∃ W, W = (w5'.setCell ⟨mx, 9, none⟩ (.slice (some ⟨w5'.heap.size, 0, none⟩) (k + 65) (k + 65))).alloc (.cells AM 3) := ⟨_, rfl⟩
    have hbt' : W.heap[w5'.heap.size]? = some (.cells (madeCells #[Value.int .i64 0] (k + 65)) 3 (0, 0)) := by rw [hW, ← hAM]; exact set_new w5' _ _ _
    have hbe' : W.heap[be]? = some (.cells (madeCells zcells (64 * 6)) 24 (0, 0)) := by rw [hW, ← unhide HE64]; exact (Below.heap_alloc (w5'.setCell _ _) _ be (by rw [set_size]; exact lbe)).trans ((Below.heap_setCell w5' ⟨mx, 9, none⟩ _ be ne3).trans (unhide BK5).be)
    have BW : Hid (Below w.heap.size w W) := by show Below w.heap.size w W; rw [hW]; exact ((unhide B5).setCell (p := ⟨mx, 9, none⟩) ge3 _).alloc (by rw [set_size]; exact (unhide B5).size) _
    have hcall := encodeMsg_any 0 0 0 15 0 0 0 0 false (some ⟨w5'.heap.size, 0, none⟩) (k + 65) (k + 65) (List.replicate (k + 65) 0) (by simp) (some ⟨be, 0, none⟩) 64 64 (List.replicate 64 zeroE) rfl (by decide) none none 0 0 0 0 [] [] rfl rfl W (fun b w' _ _ hb => ints_zero ((hb.block _ (blk_lt' hbt')).trans hbt')) (fun b w' _ _ hb => ents_zero ((hb.block be (blk_lt' hbe')).trans hbe')) (fun _ _ _ _ _ => ints_none _ _) (fun _ _ _ _ _ => ints_none _ _) ((unhide HS).below (unhide BW))
    rw [merr_terms k] at hcall
    have HCA := hide hcall
    clear hcall hbt' hbe' hAM
    subst hW
    go_wp2_with fail
    refine (unhide HCA).mono ?_
    rintro e w6 ⟨v6, rfl, _, b6⟩
    have B6 := hide ((unhide BW).trans (b6.mono (unhide BW).size))
    clear b6
    go_wp2
    go_ret
    exact ⟨rfl, unhide B6⟩
  · clear x0 x1 x2 x3 x4 x5
    obtain ⟨AM, hAM⟩ : ∃ A, A = madeCells zcells ((k + 65) * 6) := ⟨_, rfl⟩
    have mm : ∀ w, (Instr.makeSlice 37 (.int .i64 (64 + (1 + (k : Int)))) (.int .i64 (64 + (1 + (k : Int))))).run Tryd.prog w = .ok (.slice (some ⟨w.heap.size, 0, none⟩) (k + 65) (k + 65)) (w.alloc (.cells AM 24)) := fun w => by rw [hAM, show (64 : Int) + (1 + (k : Int)) = ((k + 65 : Nat) : Int) by omega]; exact make_ents (k + 65) (by omega) w
    obtain ⟨W, hW⟩ : ∃ W, W = (w5'.setCell ⟨mx, 10, none⟩ (.slice (some ⟨w5'.heap.size, 0, none⟩) (k + 65) (k + 65))).alloc (.cells AM 24) := ⟨_, rfl⟩
    have hbe' : W.heap[w5'.heap.size]? = some (.cells (madeCells zcells ((k + 65) * 6)) 24 (0, 0)) := by rw [hW, ← hAM]; exact set_new w5' _ _ _
    have hbt' : W.heap[bt]? = some (.cells (madeCells #[Value.int .i64 0] 64) 3 (0, 0)) := by rw [hW, ← unhide HA64]; exact (Below.heap_alloc (w5'.setCell _ _) _ bt (by rw [set_size]; exact lbt)).trans ((Below.heap_setCell w5' ⟨mx, 10, none⟩ _ bt ne2).trans (unhide BK5).bt)
    have BW : Hid (Below w.heap.size w W) := by show Below w.heap.size w W; rw [hW]; exact ((unhide B5).setCell (p := ⟨mx, 10, none⟩) ge3 _).alloc (by rw [set_size]; exact (unhide B5).size) _
    have hcall := encodeMsg_any 0 0 0 15 0 0 0 0 false (some ⟨bt, 0, none⟩) 64 64 (List.replicate 64 0) rfl (some ⟨w5'.heap.size, 0, none⟩) (k + 65) (k + 65) (List.replicate (k + 65) zeroE) (by simp) (by omega) none none 0 0 0 0 [] [] rfl rfl W (fun b w' _ _ hb => ints_zero ((hb.block _ (blk_lt' hbt')).trans hbt')) (fun b w' _ _ hb => ents_zero ((hb.block _ (blk_lt' hbe')).trans hbe')) (fun _ _ _ _ _ => ints_none _ _) (fun _ _ _ _ _ => ints_none _ _) ((unhide HS).below (unhide BW))
    rw [merr_ents k] at hcall
    have HCA := hide hcall
    clear hcall hbt' hbe' hAM
    subst hW
    go_wp2_with fail
    refine (unhide HCA).mono ?_
    rintro e w6 ⟨v6, rfl, _, b6⟩
    have B6 := hide ((unhide BW).trans (b6.mono (unhide BW).size))
    clear b6
    go_wp2
    go_ret
    exact ⟨rfl, unhide B6⟩
  · clear y0 y1 y2 y3 y4 y5 y6 y7 y8 y9 y10 y11 y12 x0 x1 x2 x3 x4 x5
    obtain ⟨AM, hAM⟩ : ∃ A, A = madeCells #[Value.int .i64 0] (k + 10) := ⟨_, rfl⟩
    have mm : ∀ w, (Instr.makeSlice 22 (.int .i64 (9 + (1 + (k : Int)))) (.int .i64 (9 + (1 + (k : Int))))).run Tryd.prog w = .ok (.slice (some ⟨w.heap.size, 0, none⟩) (k + 10) (k + 10)) (w.alloc (.cells AM 3)) := fun w => by rw [hAM, show (9 : Int) + (1 + (k : Int)) = ((k + 10 : Nat) : Int) by omega]; exact make_ints (k + 10) (by omega) w
    have hbm' : (w5'.alloc (.cells AM 3)).heap[w5'.heap.size]? = some (.cells (madeCells #[Value.int .i64 0] (k + 10)) 3 (0, 0)) := by rw [← hAM]; exact heap_alloc_new w5' _
    have BW : Hid (Below w.heap.size w (w5'.alloc (.cells AM 3))) := (unhide B5).alloc (unhide B5).size _
    have hcall := encodeConfig_any none (some ⟨w5'.heap.size, 0, none⟩) 0 (k + 10) 0 (k + 10) [] (List.replicate (k + 10) 0) rfl (by simp) (w5'.alloc (.cells AM 3)) (fun _ _ _ _ _ => ints_none _ _) (fun b w' _ _ hb => ints_zero ((hb.block _ (blk_lt' hbm')).trans hbm')) ((unhide HS).below (unhide BW))
    rw [cerr k] at hcall
    have HCA := hide hcall
    clear hcall hbm' hAM
    go_wp2_with fail
    refine (unhide HCA).mono ?_
    rintro e w6 ⟨v6, rfl, _, b6⟩
    have B6 := hide ((unhide BW).trans (b6.mono (unhide BW).size))
    clear b6
    go_wp2
    go_ret
    exact ⟨rfl, unhide B6⟩
end Go.Proofs.YtghmbfibodehlaaDoor
