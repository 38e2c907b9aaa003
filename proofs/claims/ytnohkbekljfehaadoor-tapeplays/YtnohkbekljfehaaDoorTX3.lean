/- The reference's Crash: a contract. -/
import Derived.Test.YtnohkbekljfehaaDoorTX2
namespace Go.Proofs.YtnohkbekljfehaaDoor
open Go.RowKit

set_option maxRecDepth 20000 in
set_option maxHeartbeats 2000000 in
theorem xcrash_any (base p : Nat) (q : Option Nat) (s : St) (pick : Int) (w : World) (h : XTp base w p q s) :
    Calls Tryd.prog 22 #[.pointer (some ⟨p, 0, none⟩), .int .i64 pick] w fun e w' => e = .returned (.int .i64 ((s.kept pick : Nat) : Int)) ∧ XTp base w' p q (s.crash pick) ∧ Kept base (fun k => k = p) w w' := by
  obtain ⟨v, L, hL, hv, hbp, hp, hown, hk⟩ := h
  obtain ⟨ao, cap, rfl, hc, hcm, _, hcap, _⟩ := hown.slice
  have hks := kept_spec s pick hk.1
  obtain ⟨k, ek⟩ : ∃ k, s.kept pick = k := ⟨_, rfl⟩
  have ec : s.crash pick = { s with bs := s.bs.take (s.syn + k), syn := s.syn + k, left := 0, dead := false } := by simp only [St.crash, ek]
  rw [ec, ek]
  rw [ek] at hks
  obtain ⟨hk1, hk2⟩ := hks
  have c1 : w.cell? ⟨p, 1, none⟩ = some (.int .i64 (s.syn : Int)) := (cell_of_block hp).trans rfl
  have c2 : w.cell? ⟨p, 2, none⟩ = some (.slice ao s.bs.length cap) := (cell_of_block hp).trans rfl
  have c3 : w.cell? ⟨p, 3, none⟩ = some (.int .i64 L) := (cell_of_block hp).trans rfl
  have c5 : w.cell? ⟨p, 5, none⟩ = some (.bool s.dead) := (cell_of_block hp).trans rfl
  have f1 : w.frozen? ⟨p, 1, none⟩ = false := free_of_block hp
  have f2 : w.frozen? ⟨p, 2, none⟩ = false := free_of_block hp
  have f3 : w.frozen? ⟨p, 3, none⟩ = false := free_of_block hp
  have f5 : w.frozen? ⟨p, 5, none⟩ = false := free_of_block hp
  have hsyn : s.syn ≤ s.bs.length := hk.1
  have hlen : s.bs.length ≤ 1073741824 := by omega
  have hne := hown.ne hp (by decide)
  obtain ⟨d, hd⟩ : ∃ d : Nat, (s.bs.length : Int) - (s.syn : Int) = (d : Int) := ⟨s.bs.length - s.syn, by omega⟩
  rw [hd] at hk1
  have hdl : d ≤ 1073741824 := by omega
  have hkd : k ≤ d := by omega
  have x1 : IntKind.i64.wrap ((s.bs.length : Int) - (s.syn : Int)) = (d : Int) := by rw [IntWalk.i64_in _ (by omega), hd]
  have x3 : IntKind.i64.wrap ((s.syn : Int) + (k : Int)) = (s.syn : Int) + (k : Int) := IntWalk.i64_in _ (by omega)
  have hlo := Int.emod_nonneg pick (show ((d : Int) + 1) ≠ 0 by omega)
  have hhi := Int.emod_lt_of_pos pick (show (0 : Int) < (d : Int) + 1 by omega)
  obtain ⟨t, ht⟩ : ∃ t, pick.tmod ((d : Int) + 1) = t := ⟨_, rfl⟩
  have htk : t = (k : Int) ∨ t + (d : Int) + 1 = (k : Int) := by
    have h := @Int.tmod_eq_emod pick ((d : Int) + 1)
    rw [ht] at h
    split at h
    · left; omega
    · right; omega
  have hz : (((d : Int) + 1) == 0) = false := by simp; omega
  have HP := hide hp
  have HO := hide hown
  have HK := hide hk
  have HV := hide hv
  have HN := hide hne
  clear hp hown hk hv hne ec ek hk1 hcap hL hlo hhi hd
  have fin : ∀ nq, XTp base (((((w.drewN nq).setCell ⟨p, 2, none⟩ (.slice ao (s.syn + k) cap)).setCell ⟨p, 1, none⟩ (.int .i64 ((s.syn : Int) + (k : Int)))).setCell ⟨p, 5, none⟩ (.bool false)).setCell ⟨p, 3, none⟩ (.int .i64 0)) p q { s with bs := s.bs.take (s.syn + k), syn := s.syn + k, left := 0, dead := false } ∧ Kept base (fun k => k = p) w (((((w.drewN nq).setCell ⟨p, 2, none⟩ (.slice ao (s.syn + k) cap)).setCell ⟨p, 1, none⟩ (.int .i64 ((s.syn : Int) + (k : Int)))).setCell ⟨p, 5, none⟩ (.bool false)).setCell ⟨p, 3, none⟩ (.int .i64 0)) := by
    intro nq
    have K0 : Kept base (fun k => k = p) w (w.drewN nq) := ⟨⟨rfl, rfl, rfl, Nat.le_refl _, fun _ _ => rfl⟩, fun _ _ _ => rfl⟩
    have K4 := fun u2 u1 u5 u4 => ((((K0.setCell (p := ⟨p, 2, none⟩) hbp rfl u2).setCell (p := ⟨p, 1, none⟩) hbp rfl u1).setCell (p := ⟨p, 5, none⟩) hbp rfl u5).setCell (p := ⟨p, 3, none⟩) hbp rfl u4)
    have hp0 : (w.drewN nq).heap[p]? = _ := unhide HP
    have o1 := own_take (unhide HO) (s.syn + k) hk2
    refine ⟨⟨.slice ao (s.syn + k) cap, 0, rfl, ?_, hbp, setCell_block (setCell_block (setCell_block (setCell_block hp0))), o1.kept (K4 _ _ _ _) ?_, ?_⟩, K4 _ _ _ _⟩
    · rw [← unhide HV]; cases ao <;> rfl
    · intro j hj
      refine unhide HN j ?_
      rw [← hj]; cases ao <;> rfl
    · refine ⟨by simp only [List.length_take]; omega, ?_, (unhide HK).2.2⟩
      have := (unhide HK).2.1
      simp only [List.length_take]; omega
  have FIN := hide fin
  clear fin
  by_cases hn : t < 0
  · have he : t + (d : Int) + 1 = (k : Int) := by omega
    have hlo : -1073741826 ≤ t := by omega
    clear htk
    go_enter Tryd.func22, Tryd.ntmps22
    go_wp2
    go_quiet (fail)
    clear x1
    go_wp2
    go_region
    go_wp2
    go_ret
    exact ⟨rfl, unhide FIN _⟩
  · have he : t = (k : Int) := by omega
    subst he
    clear htk
    go_enter Tryd.func22, Tryd.ntmps22
    go_wp2
    go_quiet (fail)
    clear x1
    go_wp2
    go_region
    go_wp2
    go_ret
    exact ⟨rfl, unhide FIN _⟩
end Go.Proofs.YtnohkbekljfehaaDoor
