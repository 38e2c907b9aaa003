/- chain: what a fresh core saves: contracts. chain: what is taken of no entries; known, isBehind: contracts. -/
import Derived.Test.YtjplhiflemmkfaaGreatDoorEC1
namespace Go.Proofs.YtjplhiflemmkfaaGreatDoor
open Go.RowKit Go.Maps
attribute [local go_sem ↓] Go.wp_at_zero Go.wp_at_succ

/-- the message as which a past without entries lasts. -/
def csaid (base : Int) (ms : List Int) : Mg := ⟨0, 0, 0, 0, 0, base, 0, 0, true, [], [], [], ms⟩
theorem csaid64 {id base : Int} {ms : List Int} (h : Core0 id base ms) : (csaid base ms).packed.in64 := by
  have := h.b0
  have := h.b1
  exact ⟨in64_small (x := 0) (by decide) (by decide), in64_small (x := 0) (by decide) (by decide), in64_small (x := 0) (by decide) (by decide), in64_small (x := 15) (by decide) (by decide), in64_small (x := 0) (by decide) (by decide), in64_small (x := base) (by omega) (by omega), in64_small (x := 0) (by decide) (by decide), in64_small (x := 0) (by decide) (by decide), (fun y hy => by cases hy), (fun e he => by cases he), (fun y hy => by cases hy), ms64 h⟩
theorem said_ok {m : Mg} (h1 : m.terms = []) (h2 : m.es = []) (h3 : m.old = []) (h4 : m.new.length ≤ 9) : m.packed.ok := packed_ok (by rw [h1]; exact Nat.zero_le _) h2 (by rw [h3]; exact Nat.zero_le _) h4
set_option maxRecDepth 20000 in
set_option maxHeartbeats 1000000 in
theorem cbytes_fresh {p : Nat} {ao : Option Addr} {cap : Nat} {ms : List Int} {base : Int} (hl : ms.length ≤ 9) (w : World) (h : CPst w p ao cap ms base) (hS : Start w) : Calls Tryz.prog 86 #[.pointer (some ⟨p, 0, none⟩)] w fun e w' => ∃ v, e = .returned v ∧ Own w.heap.size w' v (frame (csaid base ms).packed.bytes) ∧ Below w.heap.size w w' := by
  have SX := hide (fun (Y : World) (hY : Below w.heap.size w Y) => (show Y.cell? ⟨p, 0, none⟩ = some (.slice ao ms.length cap) ∧ Y.cell? ⟨p, 1, none⟩ = some (.int .i64 base) ∧ Y.cell? ⟨p, 2, none⟩ = some (.slice none 0 0) from ⟨(cell_of_block (h.below hY).box).trans rfl, (cell_of_block (h.below hY).box).trans rfl, (cell_of_block (h.below hY).box).trans rfl⟩))
  have CP := hide (fun (Y : World) (hY : Below w.heap.size w Y) => pack_any (csaid base ms) none none none ao 0 0 0 cap Y (IntsR.nil _ _) (EntsAt.none' _ _) (IntsR.nil _ _) (h.below hY).mem.fr.1 (said_ok rfl rfl rfl hl) (hS.below hY))
  have EZ := hide (Below.refl w.heap.size w)
  clear h
  go_enter Tryz.func86, Tryz.ntmps86
  go_upto_region 1 with fail
  go_region_held3 (fun Y => Y.cell? ⟨p, 0, none⟩ = some (.slice ao ms.length cap) ∧ Y.cell? ⟨p, 1, none⟩ = some (.int .i64 base) ∧ Y.cell? ⟨p, 2, none⟩ = some (.slice none 0 0)) (first | with_reducible exact unhide SX _ (unhide EZ) | with_reducible exact unhide SX _ (unhide EZ).drew | with_reducible exact unhide SX _ ((unhide EZ).alloc (unhide EZ).size _) | with_reducible exact unhide SX _ ((unhide EZ).alloc (unhide EZ).size _).drew | with_reducible exact unhide SX _ (set6 (unhide EZ) (Nat.le_refl _)) | with_reducible exact unhide SX _ (set6 ((unhide EZ).alloc (unhide EZ).size _) (unhide EZ).size) | with_reducible exact unhide SX _ (set6 ((unhide EZ).alloc (unhide EZ).size _).drew (unhide EZ).size) | with_reducible exact unhide SX _ (set2 (unhide EZ) (Nat.le_refl _)) | go_keep | fail)
    (first
      | (go_at_call 156
         refine (unhide CP _ (by first | exact unhide EZ | exact (unhide EZ).drew | exact (unhide EZ).alloc (unhide EZ).size _ | exact ((unhide EZ).alloc (unhide EZ).size _).drew | fail)).mono ?_
         rintro e z2 ⟨v, rfl, oz, bz⟩
         have OZ := hide (oz.rebase (show w.heap.size ≤ _ from (unhide EZ).size))
         clear oz
         have EN := hide (below_far (by first | exact unhide EZ | exact (unhide EZ).drew | exact (unhide EZ).alloc (unhide EZ).size _ | exact ((unhide EZ).alloc (unhide EZ).size _).drew | fail) bz)
         clear EZ bz
         have EZ := EN
         clear EN)
      | fail)
  go_wp2
  go_ret
  exact ⟨_, rfl, unhide OZ, unhide EZ⟩
theorem concat2 (Z : World) (a1 a2 : Option Addr) (n1 n2 c1 c2 : Nat) (L1 L2 : List Nat) (h1 : Given Z a1 n1 c1 L1) (h2 : Given Z a2 n2 c2 L2) (hne : 0 < L1.length) (hl : L1.length + L2.length ≤ 1000000) (t : TypeId) :
    Calls Tryz.prog 85 #[.slice (some ⟨Z.heap.size, 0, none⟩) 2 2] (Z.alloc (.cells #[.slice a1 n1 c1, .slice a2 n2 c2] t)) fun e w' => ∃ v, e = .returned v ∧ Own Z.heap.size w' v (L1 ++ L2) ∧ Below Z.heap.size Z w' := by
  have bZ : Below Z.heap.size Z (Z.alloc (.cells #[.slice a1 n1 c1, .slice a2 n2 c2] t)) := (Below.refl _ Z).alloc (Nat.le_refl _) _
  have x := box_at Z (.cells #[.slice a1 n1 c1, .slice a2 n2 c2] t)
  have ef : ((([(.slice a1 n1 c1, L1), (.slice a2 n2 c2, L2)] : List (Value × List Nat)).map (·.2)).flatten) = L1 ++ L2 := by simp
  have := bconcat_any ⟨Z.heap.size, 0, none⟩ 2 2 [(.slice a1 n1 c1, L1), (.slice a2 n2 c2, L2)] rfl (by rw [ef]; simp; omega) (by rw [ef]; simp; omega) (by decide) (Z.alloc (.cells #[.slice a1 n1 c1, .slice a2 n2 c2] t)) (fun i p hp => by
    match i with
    | 0 => cases hp; exact ⟨(cell_of_block x).trans rfl, a1, n1, c1, rfl, h1.len, h1.are.below bZ, h1.nul⟩
    | 1 => cases hp; exact ⟨(cell_of_block x).trans rfl, a2, n2, c2, rfl, h2.len, h2.are.below bZ, h2.nul⟩
    | i + 2 => simp at hp)
  rw [ef] at this
  exact this.mono (by rintro e w' ⟨v, k1, k2, k3⟩; exact ⟨v, k1, k2.rebase bZ.size, below_far bZ k3⟩)
set_option maxRecDepth 20000 in
set_option maxHeartbeats 2000000 in
theorem csave_fresh {c : Nat} {id base : Int} {ms : List Int} (hb0 : 0 ≤ base) (hb1 : base ≤ 64) (hl : ms.length ≤ 9) (w : World) (h : CNew w c id ms base) (hS : Start w) : Calls Tryz.prog 23 #[.pointer (some ⟨c, 0, none⟩)] w fun e w' => ∃ v, e = .returned v ∧ Own w.heap.size w' v (frame (csaid base ms).packed.bytes ++ frame (psaid base ms).packed.bytes) ∧ Below w.heap.size w w' := by
  obtain ⟨p, i, pc, ao, cap, h1, h2, h3, h4⟩ := h
  obtain ⟨L1, hL1⟩ : ∃ L, frame (csaid base ms).packed.bytes = L := ⟨_, rfl⟩
  obtain ⟨L2, hL2⟩ : ∃ L, frame (psaid base ms).packed.bytes = L := ⟨_, rfl⟩
  have s1 := msg_bytes (said_ok (m := csaid base ms) rfl rfl rfl hl)
  have s2 := msg_bytes (said_ok (m := psaid base ms) rfl rfl rfl hl)
  have l1 : L1.length ≤ 100000 ∧ 0 < L1.length := by rw [← hL1, frame_length]; omega
  have l2 : L2.length ≤ 100000 := by rw [← hL2, frame_length]; omega
  have CB := hide (fun (Y : World) (hY : Below w.heap.size w Y) => cbytes_fresh hl Y (h2.below hY) (hS.below hY))
  have CS := hide (fun (Y : World) (hY : Below w.heap.size w Y) => psave_fresh hb0 hb1 hl Y (h4.below hY) (hS.below hY))
  rw [hL1] at CB ⊢
  rw [hL2] at CS ⊢
  have SX := hide (fun (Y : World) (hY : Below w.heap.size w Y) => (show Y.cell? ⟨c, 0, none⟩ = some (.pointer (some ⟨p, 0, none⟩)) ∧ Y.cell? ⟨c, 1, none⟩ = some (.pointer (some ⟨i, 0, none⟩)) ∧ Y.cell? ⟨i, 0, none⟩ = some (.pointer (some ⟨pc, 0, none⟩)) from ⟨(cell_of_block (Below.stay hY h1)).trans rfl, (cell_of_block (Below.stay hY h1)).trans rfl, (cell_of_block (Below.stay hY h3)).trans rfl⟩))
  have EZ := hide (Below.refl w.heap.size w)
  have LL := hide (And.intro l1 l2)
  clear h1 h2 h3 h4 hS hL1 hL2 s1 s2 l1 l2
  go_enter Tryz.func23, Tryz.ntmps23
  go_upto_region 1 with fail
  go_region_held3 (fun Y => Y.cell? ⟨c, 0, none⟩ = some (.pointer (some ⟨p, 0, none⟩)) ∧ Y.cell? ⟨c, 1, none⟩ = some (.pointer (some ⟨i, 0, none⟩)) ∧ Y.cell? ⟨i, 0, none⟩ = some (.pointer (some ⟨pc, 0, none⟩))) (first | with_reducible exact unhide SX _ (unhide EZ) | with_reducible exact unhide SX _ (unhide EZ).drew | with_reducible exact unhide SX _ ((unhide EZ).alloc (unhide EZ).size _) | with_reducible exact unhide SX _ ((unhide EZ).alloc (unhide EZ).size _).drew | with_reducible exact unhide SX _ (set6 (unhide EZ) (Nat.le_refl _)) | with_reducible exact unhide SX _ (set6 ((unhide EZ).alloc (unhide EZ).size _) (unhide EZ).size) | with_reducible exact unhide SX _ (set6 ((unhide EZ).alloc (unhide EZ).size _).drew (unhide EZ).size) | with_reducible exact unhide SX _ (set2 (unhide EZ) (Nat.le_refl _)) | go_keep | fail)
    (first
      | (go_at_call 86
         refine (unhide CB _ (by first | exact unhide EZ | exact (unhide EZ).drew | exact (unhide EZ).alloc (unhide EZ).size _ | exact ((unhide EZ).alloc (unhide EZ).size _).drew | fail)).mono ?_
         rintro e z1 ⟨v1, rfl, o1, bz⟩
         obtain ⟨a1, c1, rfl, gv⟩ := own_given o1 (by have := (unhide LL).1.1; omega)
         have G1 := hide gv
         first
           | (have GN := hide ((unhide G2).below bz)
              clear G2
              have G2 := GN
              clear GN)
           | skip
         clear o1 gv
         have EN := hide (below_far (by first | exact unhide EZ | exact (unhide EZ).drew | exact (unhide EZ).alloc (unhide EZ).size _ | exact ((unhide EZ).alloc (unhide EZ).size _).drew | fail) bz)
         clear EZ bz
         have EZ := EN
         clear EN)
      | (go_at_call 87
         refine (unhide CS _ (by first | exact unhide EZ | exact (unhide EZ).drew | exact (unhide EZ).alloc (unhide EZ).size _ | exact ((unhide EZ).alloc (unhide EZ).size _).drew | fail)).mono ?_
         rintro e z2 ⟨v2, rfl, o2, bz⟩
         obtain ⟨a2, c2, rfl, gv⟩ := own_given o2 (by have := (unhide LL).2; omega)
         have G2 := hide gv
         first
           | (have GN := hide ((unhide G1).below bz)
              clear G1
              have G1 := GN
              clear GN)
           | skip
         clear o2 gv
         have EN := hide (below_far (by first | exact unhide EZ | exact (unhide EZ).drew | exact (unhide EZ).alloc (unhide EZ).size _ | exact ((unhide EZ).alloc (unhide EZ).size _).drew | fail) bz)
         clear EZ bz
         have EZ := EN
         clear EN)
      | (go_at_call 85
         refine (concat2 _ a1 a2 _ _ c1 c2 L1 L2 (unhide G1) (unhide G2) (unhide LL).1.2 (by have := (unhide LL).1.1; have := (unhide LL).2; omega) _).mono ?_
         rintro e z3 ⟨v3, rfl, o3, bz⟩
         have O3 := hide (o3.rebase (unhide EZ).size)
         clear o3
         have EN := hide (below_far (by first | exact unhide EZ | exact (unhide EZ).drew | exact (unhide EZ).alloc (unhide EZ).size _ | exact ((unhide EZ).alloc (unhide EZ).size _).drew | fail) bz)
         clear EZ bz
         have EZ := EN
         clear EN)
      | fail)
  all_goals go_wp2
  all_goals go_ret
  all_goals exact ⟨_, rfl, unhide O3, unhide EZ⟩
end Go.Proofs.YtjplhiflemmkfaaGreatDoor
namespace Go.Proofs.YtjplhiflemmkfaaGreatDoor
open Go.RowKit Go.Maps

theorem cended_none {p : Nat} {ao : Option Addr} {cap : Nat} {ms : List Int} {base : Int} (eo : Option Addr) (ec : Nat) (w : World) (h : CPst w p ao cap ms base) : Calls Tryz.prog 225 #[.pointer (some ⟨p, 0, none⟩), .slice eo 0 ec] w fun e w' => e = .returned (.int .i64 0) ∧ Below w.heap.size w w' := by
  obtain ⟨n, hn⟩ : ∃ n, ms.length = n := ⟨_, rfl⟩
  have CM := hide (cmembers_fresh hn w h)
  clear h hn
  go_enter Tryz.func225, Tryz.ntmps225
  go_wp2_with fail
  refine (unhide CM).mono ?_
  rintro e w1 ⟨rfl, b1⟩
  have B1 := hide b1
  clear CM b1
  go_wp2
  go_loopw [13, 5, 6, 7, 8] (fun i _ s _ _ wr => i = .int .i64 0 ∧ s = .int .i64 0 ∧ wr = w1) (fun _ _ _ _ _ _ => 0)
  case atStart => exact ⟨rfl, rfl, rfl⟩
  case round =>
    obtain ⟨rfl, rfl, rfl⟩ := hrel
    go_wp2
    go_ret
    exact ⟨rfl, unhide B1⟩
set_option maxHeartbeats 1000000 in
theorem cgrow_none {p : Nat} {ao : Option Addr} {cap : Nat} {ms : List Int} {base : Int} (eo : Option Addr) (ec : Nat) (w : World) (h : CPst w p ao cap ms base) : Calls Tryz.prog 189 #[.pointer (some ⟨p, 0, none⟩), .slice eo 0 ec] w fun e w' => e = .returned (.bool false) ∧ Below w.heap.size w w' := by
  have CM := hide (cended_none eo ec w h)
  clear h
  by_cases hz : ec = 0
  all_goals
    first | subst hz | skip
    have HZ := hide True.intro
    go_enter Tryz.func189, Tryz.ntmps189
    go_wp2_with fail
    refine (unhide CM).mono ?_
    rintro e w1 ⟨rfl, b1⟩
    have B1 := hide b1
    clear CM b1
    go_wp2
    go_loopw [15, 7] (fun i _ wr => i = .int .i64 0 ∧ wr = w1) (fun _ _ _ => 0)
    case atStart => exact ⟨rfl, rfl⟩
    case round =>
      obtain ⟨rfl, rfl⟩ := hrel
      go_wp2
      go_ret
      exact ⟨rfl, unhide B1⟩
set_option maxHeartbeats 1000000 in
theorem cremembered (base : Int) (ms : List Int) (aot aoe aoo aon : Option Addr) (ct ce co cn n : Nat) (hn : ms.length = n) (w : World) (hm : Mbrs w aon cn ms) :
    Calls Tryz.prog 153 #[.agg #[.int .i64 0, .int .i64 0, .int .i64 0, .int .i64 15, .int .i64 0, .int .i64 base, .int .i64 0, .int .i64 0, .bool true, .slice aot 0 ct, .slice aoe 0 ce, .slice aoo 0 co, .slice aon n cn]] w fun e w' => ∃ p, e = .returned (.tuple #[.pointer (some ⟨p, 0, none⟩), .int .i64 0]) ∧ (∃ ao cap, CPst w' p ao cap ms base) ∧ Below w.heap.size w w' := by
  obtain ⟨W, hW⟩ : ∃ W, w.alloc (.cells #[.int .i64 0, .int .i64 0, .int .i64 0, .int .i64 15, .int .i64 0, .int .i64 base, .int .i64 0, .int .i64 0, .bool true, .slice aot 0 ct, .slice aoe 0 ce, .slice aoo 0 co, .slice aon n cn] 50) = W := ⟨_, rfl⟩
  have bW : Below w.heap.size w W := by rw [← hW]; exact (Below.refl _ w).alloc (Nat.le_refl _) _
  obtain ⟨B, hB⟩ : ∃ B, w.heap.size = B := ⟨_, rfl⟩
  have xW : W.heap[B]? = some (.cells #[.int .i64 0, .int .i64 0, .int .i64 0, .int .i64 15, .int .i64 0, .int .i64 base, .int .i64 0, .int .i64 0, .bool true, .slice aot 0 ct, .slice aoe 0 ce, .slice aoo 0 co, .slice aon n cn] 50 (0, 0)) := by rw [← hB, ← hW]; exact box_at _ _
  have q12 : W.cell? ⟨B, 12, none⟩ = some (.slice aon n cn) := (cell_of_block xW).trans rfl
  have q5 : W.cell? ⟨B, 5, none⟩ = some (.int .i64 base) := (cell_of_block xW).trans rfl
  have HW := hide hW
  have HB := hide hB
  have BW := hide bW
  have XW := hide xW
  have HM := hide (hm.below bW)
  have HN := hide hn
  clear hW hB bW xW hm hn
  go_enter Tryz.func153, Tryz.ntmps153
  go_upto_region 1 with fail
  rw [unhide HW, unhide HB]
  clear HW
  go_upto_region 2 with fail
  obtain ⟨w1, hw1⟩ : ∃ w1, W.alloc (.cells #[.slice aon n cn, .int .i64 base, .slice none 0 0] 78) = w1 := ⟨_, rfl⟩
  obtain ⟨p, hp⟩ : ∃ p, W.heap.size = p := ⟨_, rfl⟩
  have b1 : Below W.heap.size W w1 := by rw [← hw1]; exact (Below.refl _ W).alloc (Nat.le_refl _) _
  have P1 : CPst w1 p aon cn ms base := ⟨by rw [← hp, ← hw1, unhide HN]; exact box_at _ _, (unhide HM).below b1⟩
  rw [hw1, hp]
  have p10 : w1.cell? ⟨B, 10, none⟩ = some (.slice aoe 0 ce) := (cell_of_block (Below.stay b1 (unhide XW))).trans rfl
  have CG := hide (cgrow_none aoe ce w1 P1)
  have PP := hide P1
  have B1 := hide (below_far (unhide BW) b1)
  clear hw1 hp b1 P1 HM HN XW BW q12 q5
  go_wp2_with fail
  refine (unhide CG).mono ?_
  rintro e w2 ⟨rfl, b2⟩
  have R := hide (And.intro ((unhide PP).below b2) (below_far (unhide B1) b2))
  clear CG b2 PP B1 p10
  go_wp2
  go_ret2
  exact ⟨p, rfl, ⟨aon, cn, (unhide R).1⟩, (unhide R).2⟩
set_option maxHeartbeats 1000000 in
theorem cknown_none {i pc : Nat} {id base : Int} {ms : List Int} (hb0 : 0 ≤ base) (hb1 : base ≤ 64) (w : World) (hi : w.heap[i]? = some (.cells #[.pointer (some ⟨pc, 0, none⟩), .int .i64 1] 101 (0, 0))) (h : PNew w pc id ms base) : Calls Tryz.prog 190 #[.pointer (some ⟨i, 0, none⟩), .int .i64 base] w fun e w' => e = .returned (.slice none 0 0) ∧ Below w.heap.size w w' := by
  have i0 : w.cell? ⟨i, 0, none⟩ = some (.pointer (some ⟨pc, 0, none⟩)) := (cell_of_block hi).trans rfl
  have CC := hide (commit_fresh hb0 hb1 w h)
  have hw1 : IntKind.i64.wrap (base + 1) = base + 1 := IntWalk.i64_in _ (by omega)
  clear h hi
  go_enter Tryz.func190, Tryz.ntmps190
  go_wp2
  go_loopw [6, 5, 7, 8] (fun i s _ _ wr => i = .int .i64 (base + 1) ∧ s = .slice none 0 0 ∧ wr = w) (fun _ _ _ _ _ => 0)
  case atStart => exact ⟨rfl, rfl, rfl⟩
  case round =>
    obtain ⟨rfl, rfl, rfl⟩ := hrel
    go_wp2_with fail
    refine (unhide CC).mono ?_
    rintro e w1 ⟨rfl, b1⟩
    have B1 := hide b1
    clear CC b1
    go_wp2
    go_ret
    exact ⟨rfl, unhide B1⟩
set_option maxHeartbeats 1000000 in
theorem cbehind_fresh {i pc : Nat} {id base : Int} {ms : List Int} (hb0 : 0 ≤ base) (hb1 : base ≤ 64) (w : World) (hi : w.heap[i]? = some (.cells #[.pointer (some ⟨pc, 0, none⟩), .int .i64 1] 101 (0, 0))) (h : PNew w pc id ms base) : Calls Tryz.prog 224 #[.pointer (some ⟨i, 0, none⟩), .int .i64 base] w fun e w' => e = .returned (.bool true) ∧ Below w.heap.size w w' := by
  have ix := fun (Y : World) (hY : Below w.heap.size w Y) => (show Y.cell? ⟨i, 0, none⟩ = some (.pointer (some ⟨pc, 0, none⟩)) from (cell_of_block (Below.stay hY hi)).trans rfl)
  have CE := hide (fun (Y : World) (hY : Below w.heap.size w Y) => pentry_none base (WalkArith.wf_i64 (by omega)) Y (h.below hY))
  have CE1 := hide (fun (Y : World) (hY : Below w.heap.size w Y) => pentry_none (base + 1) (WalkArith.wf_i64 (by omega)) Y (h.below hY))
  have CC := hide (fun (Y : World) (hY : Below w.heap.size w Y) => commit_fresh hb0 hb1 Y (h.below hY))
  have IX := hide ix
  have i0 := ix w (Below.refl _ w)
  have K0 := hide (unhide CE w (Below.refl _ w))
  have hw1 : IntKind.i64.wrap (base + 1) = base + 1 := IntWalk.i64_in _ (by omega)
  clear ix h hi
  go_enter Tryz.func224, Tryz.ntmps224
  go_wp2_with fail
  refine (unhide K0).mono ?_
  rintro e w1 ⟨mo, mc, rfl, b1⟩
  go_upto_region 2 with fail
  obtain ⟨w2, hw2⟩ : ∃ w2, w1.alloc (.cells #[.int .i64 0, .int .i64 0, .int .i64 0, .string ⟨#[]⟩, .slice mo 0 mc, .int .i64 0] 43) = w2 := ⟨_, rfl⟩
  have b2 : Below w.heap.size w w2 := by rw [← hw2]; exact b1.alloc b1.size _
  rw [hw2]
  have i2 := unhide IX w2 b2
  have K2 := hide (unhide CE1 w2 b2)
  have B2 := hide b2
  clear hw2 b1 b2 i0 K0
  go_wp2_with fail
  refine (unhide K2).mono ?_
  rintro e w3 ⟨mo3, mc3, rfl, b3⟩
  go_upto_region 3 with fail
  obtain ⟨w4, hw4⟩ : ∃ w4, w3.alloc (.cells #[.int .i64 0, .int .i64 0, .int .i64 0, .string ⟨#[]⟩, .slice mo3 0 mc3, .int .i64 0] 43) = w4 := ⟨_, rfl⟩
  have b4 : Below w.heap.size w w4 := by rw [← hw4]; exact (below_far (unhide B2) b3).alloc (below_far (unhide B2) b3).size _
  rw [hw4]
  have i4 := unhide IX w4 b4
  have K4 := hide (unhide CC w4 b4)
  have B4 := hide b4
  clear hw4 b3 b4 i2 K2 B2
  go_wp2_with fail
  refine (unhide K4).mono ?_
  rintro e w5 ⟨rfl, b5⟩
  have b05 := below_far (unhide B4) b5
  have i5 := unhide IX w5 b05
  have K5 := hide (unhide CC w5 b05)
  have B5 := hide b05
  clear K4 b5 b05 i4 B4
  go_wp2_with fail
  refine (unhide K5).mono ?_
  rintro e w6 ⟨rfl, b6⟩
  have B6 := hide (below_far (unhide B5) b6)
  clear K5 b6 B5
  go_wp2
  go_ret
  exact ⟨rfl, unhide B6⟩
end Go.Proofs.YtjplhiflemmkfaaGreatDoor
