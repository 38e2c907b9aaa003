/- wal's Keep, once more: only the log's and the tape's own blocks are turned. -/
import Derived.Test.YtnagfoclbdlenaaGreatDoorWLog
namespace Go.Proofs.YtnagfoclbdlenaaGreatDoor
open Go.RowKit

set_option maxRecDepth 20000 in
set_option maxHeartbeats 1000000 in
theorem ckeep_any (base l p : Nat) (q : Option Nat) (s : St) (n : Nat) (g a : Addr) (ao : Option Addr) (m cap : Nat) (xs : List (List Nat)) (hm : xs.length = m) (w : World) (h : Lg base w l p q s n) (hS : Start w g a) (hb : base ≤ w.heap.size) (ho : s.ops ≤ 4611686018427387904) (hl : s.left ≤ 9223372036854775807)
    (hrow : RowsArg w ao xs) (hfit : Fit xs) (hbl : m ≤ 1000) (c : Nat) (s1 : St) (hap : s.replace (cats xs) = (c, s1)) (n1 : Nat) (hn1 : n1 = if c = 0 then takes xs else n) :
    Calls Tryz.prog 42 #[.pointer (some ⟨l, 0, none⟩), .slice ao m cap] w fun e w' => ∃ q', e = .returned (.int .i64 (c : Int)) ∧ Lg base w' l p q' s1 n1 ∧ Kept base (fun k => k = l ∨ k = p) w w' ∧ Fresh w q q' := by
  have HC := hide (framed_any ao m cap xs hm w hrow hfit hbl hS.tab hS.low)
  have hbig : takes xs ≤ 65544000 := by have := takes_few hfit; rw [hm] at this; omega
  have H := hide h
  have HS := hide hS
  have HAP := hide hap
  have HN1 := hide hn1
  clear hrow hfit h hS hm hap hn1
  go_enter Tryz.func42, Tryz.ntmps42
  go_wp2_with fail
  refine (unhide HC).mono ?_
  rintro e w1 ⟨v1, rfl, o1, b1⟩
  obtain ⟨ao1, cap1, rfl, _, _, by1, hc1, hf1⟩ := o1.slice
  have fl := cats_len xs
  rw [fl]
  have l1 := (unhide H).below b1
  have c0 : w1.cell? ⟨l, 0, none⟩ = some (.pointer (some ⟨p, 0, none⟩)) := (cell_of_block l1.2.1).trans rfl
  have hs1 := b1.size
  have hplt := (unhide H).tape.lt.2.1
  have HC2 := hide (replace_any base p q s g ao1 (takes xs) cap1 (cats xs) fl w1 l1.tape ((unhide HS).below b1).goes (Nat.le_trans hb hs1) ho hl (fun w' k => by1.far k (fun a e e2 => by have := (hf1 a e).1; omega)) (by omega))
  have L1 := hide l1
  have B1 := hide b1
  have FL := hide fl
  clear o1 b1 by1 hc1 hf1 l1 fl hplt HC
  go_wp2_with fail
  refine (unhide HC2).mono ?_
  rw [unhide HAP]
  rintro e w2 ⟨q', rfl, t2, k2, f2⟩
  have hne := (unhide L1).ne
  have hl2 : w2.heap[l]? = some (.cells #[.pointer (some ⟨p, 0, none⟩), .int .i64 (n : Int)] 80 (0, 0)) := by rw [k2.2 l (blk_lt' (unhide L1).2.1) (fun e => hne (Or.inl e))]; exact (unhide L1).2.1
  have f1 : w2.frozen? ⟨l, 1, none⟩ = false := free_of_block hl2
  have c1 : w2.cell? ⟨l, 1, none⟩ = some (.int .i64 (n : Int)) := (cell_of_block hl2).trans rfl
  have K2 : Hid (Kept base (fun k => k = l ∨ k = p) w w2) := (Kept.of_below (f := fun k => k = l ∨ k = p) (unhide B1) hb).trans k2 (fun _ _ x => Or.inr x)
  have F2 := hide (f2.mono hs1)
  have L2 : Hid (Lg base w2 l p q' s1 n) := ⟨(unhide H).1, hl2, t2⟩
  clear t2 k2 f2 hl2 HC2 hne L1
  by_cases hc0 : c = 0
  · have e1 := unhide HN1
    rw [if_pos hc0] at e1
    subst hc0
    subst e1
    go_wp2
    go_ret
    have hne2 := (unhide L2).ne
    have K3 : ∀ u, Kept base (fun k => k = l) w2 (w2.setCell ⟨l, 1, none⟩ u) := fun u => (Kept.refl base (fun k => k = l) w2).setCell (p := ⟨l, 1, none⟩) (unhide L2).1 rfl u
    refine ⟨q', rfl, ⟨(unhide L2).1, ?_, (unhide L2).tape.kept (K3 _) (fun e => hne2 (Or.inl e.symm)) (fun k e e2 => hne2 (Or.inr (e2 ▸ e)))⟩, (unhide K2).trans (K3 _) (fun _ _ e => Or.inl e), unhide F2⟩
    exact setCell_block (unhide L2).2.1
  · have e1 := unhide HN1
    rw [if_neg hc0] at e1
    subst e1
    have hcz : ((c : Int) == 0) = false := by simp; omega
    go_wp2
    go_ret
    exact ⟨q', rfl, unhide L2, unhide K2, unhide F2⟩
end Go.Proofs.YtnagfoclbdlenaaGreatDoor
