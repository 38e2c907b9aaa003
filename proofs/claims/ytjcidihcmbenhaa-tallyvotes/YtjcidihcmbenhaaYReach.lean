/- tally.Reach and the function that it hands to sort.Search: contracts. -/
import Derived.Test.YtjcidihcmbenhaaYVals
import Derived.Deep.RegionHeldLaw
namespace Go.Proofs.Ytjcidihcmbenhaa
open Go.RowKit Go.Maps

def enoughOf (old new M : List Int) (f : Int → Option Int) (x : Int) : Bool := quorumOf old new (M.filter fun id => decide (x ≤ (f id).getD 0))

set_option maxRecDepth 20000 in
set_option maxHeartbeats 2000000 in
theorem asked_any (bc bm bf bi : Nat) (ao an : Option Addr) (no nn co cn : Nat) (old new : List Int) (hno : old.length = no) (hnn : new.length = nn) (hlo : no ≤ 400000) (hln : nn ≤ 400000) (am : Option Addr) (m cm : Nat) (M : List Int) (hm : M.length = m) (hlm : m ≤ 1000000) (hwm : ∀ x ∈ M, wf64 x)
    (b c : Nat) (f : Int → Option Int) (ai : Option Addr) (n ci : Nat) (L : List Int) (hn : L.length = n) (i : Nat) (hi : i < n) (Y : World) (h0 : Y.cell? ⟨bc, 0, none⟩ = some (.slice ao no co)) (h1 : Y.cell? ⟨bc, 1, none⟩ = some (.slice an nn cn)) (h2 : Y.cell? ⟨bm, 0, none⟩ = some (.slice am m cm)) (h3 : Y.cell? ⟨bf, 0, none⟩ = some (.map (some b))) (h4 : Y.cell? ⟨bi, 0, none⟩ = some (.slice ai n ci))
    (hO : IntsR Y ao old) (hN : IntsR Y an new) (hM : IntsR Y am M) (hf : Mp 3 Y b f c) (hL : IntsR Y ai L) :
    Calls Try.prog 30 (#[.int .i64 i] ++ #[.pointer (some ⟨bc, 0, none⟩), .pointer (some ⟨bm, 0, none⟩), .pointer (some ⟨bf, 0, none⟩), .pointer (some ⟨bi, 0, none⟩)]) Y fun e w' => e = .returned (.bool (!enoughOf old new M f (L.getD i 0))) ∧ Below Y.heap.size Y w' := by
  obtain ⟨a, rfl, h5⟩ := hL i (by omega)
  obtain ⟨x, hx⟩ : ∃ x, L.getD i 0 = x := ⟨_, rfl⟩
  rw [hx] at h5 ⊢
  have SX := hide (fun (Z : World) (h : Below Y.heap.size Y Z) => (⟨(h.cell (blk_lt h0)).trans h0, (h.cell (blk_lt h1)).trans h1, (h.cell (blk_lt h2)).trans h2, (h.cell (blk_lt h3)).trans h3, (h.cell (blk_lt h4)).trans h4, (h.cell (blk_lt h5)).trans h5⟩ : Z.cell? ⟨bc, 0, none⟩ = some (.slice ao no co) ∧ Z.cell? ⟨bc, 1, none⟩ = some (.slice an nn cn) ∧ Z.cell? ⟨bm, 0, none⟩ = some (.slice am m cm) ∧ Z.cell? ⟨bf, 0, none⟩ = some (.map (some b)) ∧ Z.cell? ⟨bi, 0, none⟩ = some (.slice (some a) n ci) ∧ Z.cell? (a.add i) = some (.int .i64 x)))
  have AL := hide (fun (Z : World) (h : Below Y.heap.size Y Z) => atLeast_any am m cm M hm hlm hwm b c f x Z (hM.below h) (hf.below h))
  have hlf : (M.filter fun id => decide (x ≤ (f id).getD 0)).length ≤ 1000000 := Nat.le_trans (List.length_filter_le _ _) (by omega)
  obtain ⟨ys, hys⟩ : ∃ ys, (M.filter fun id => decide (x ≤ (f id).getD 0)) = ys := ⟨_, rfl⟩
  have HQ : Hid (enoughOf old new M f x = quorumOf old new ys) := by show _ = _; unfold enoughOf; rw [hys]
  rw [hys] at AL hlf
  have QU := hide (fun (Z : World) (h : Below Y.heap.size Y Z) (ay : Option Addr) (d : Nat) (hy : IntsR Z ay ys) => quorum_any ao an no nn co cn old new hno hnn ay ys.length d ys rfl (by omega) (by omega) hlf Z (hO.below h) (hN.below h) hy)
  obtain ⟨R, hR⟩ : ∃ R, quorumOf old new ys = R := ⟨_, rfl⟩
  rw [unhide HQ, hR]
  rw [hR] at QU
  have EZ := hide (Below.refl Y.heap.size Y).drew
  have q : (i : Int) < n := by omega
  clear h0 h1 h2 h3 h4 h5 hx hO hN hM hf hL hys hR HQ hno hnn hm hn hwm hlf
  go_enter Try.func30, Try.ntmps30
  go_wp2_with fail
  go_region_held_law (fun Z => Z.cell? ⟨bc, 0, none⟩ = some (.slice ao no co) ∧ Z.cell? ⟨bc, 1, none⟩ = some (.slice an nn cn) ∧ Z.cell? ⟨bm, 0, none⟩ = some (.slice am m cm) ∧ Z.cell? ⟨bf, 0, none⟩ = some (.map (some b)) ∧ Z.cell? ⟨bi, 0, none⟩ = some (.slice (some a) n ci) ∧ Z.cell? (a.add i) = some (.int .i64 x))
    (first | exact unhide SX _ (unhide EZ))
    (first
      | (go_at_call 32
         refine (unhide AL _ (unhide EZ)).mono ?_
         rintro e wz ⟨v, rfl, ov, bz⟩
         obtain ⟨ay, d, rfl, fy, _, _⟩ := ov.slice
         have E0 := hide ((unhide EZ).trans (bz.mono (unhide EZ).size))
         clear EZ
         have EZ := E0
         clear E0
         have Q1 := hide (unhide QU _ (unhide EZ) ay d fy.1)
         clear bz ov fy QU)
      | (go_at_call 31
         refine (unhide Q1).mono ?_
         rintro e wz ⟨rfl, bz⟩
         have E0 := hide ((unhide EZ).trans (bz.mono (unhide EZ).size))
         clear EZ
         have EZ := E0
         clear E0 bz Q1))
  all_goals go_wp2
  all_goals go_ret
  all_goals exact ⟨rfl, unhide EZ⟩
end Go.Proofs.Ytjcidihcmbenhaa
