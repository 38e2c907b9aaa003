/- tally.Reach: a contract. -/
import Derived.Test.YtjcidihcmbenhaaYReach
namespace Go.Proofs.Ytjcidihcmbenhaa
open Go.RowKit Go.Maps

theorem mem_M {old new : List Int} {z : Int} : z ∈ ris (old ++ new) ↔ z ∈ old ∨ z ∈ new := by rw [mem_ris, List.mem_append]
theorem enough_is (old new : List Int) (ms : List (Int × Int)) (x : Int) : enoughOf old new (ris (old ++ new)) (cmOf (ris (old ++ new)) ms) x = qAt old new ms x := by
  unfold enoughOf qAt
  refine quorum_by fun z hz => ?_
  have hm : (ris (old ++ new)).contains z = true := by rw [List.contains_iff_mem]; exact mem_M.2 hz
  have e : (cmOf (ris (old ++ new)) ms z).getD 0 = lastOf ms z := by unfold cmOf; rw [if_pos hm]; rfl
  rw [Bool.eq_iff_iff, List.contains_iff_mem, List.mem_filter, e]
  exact ⟨fun h => h.2, fun h => ⟨mem_M.2 hz, h⟩⟩
theorem wf_M {old new : List Int} (ho : Up old) (hn : Up new) : ∀ x ∈ ris (old ++ new), wf64 x := fun x hx => by
  rcases mem_M.1 hx with h | h
  · have := ho.2 x h; exact wf_range (by omega)
  · have := hn.2 x h; exact wf_range (by omega)
theorem boxed1 (w : World) (x : Value) (t : TypeId) : ∃ W, w.alloc (.cells #[x] t) = W ∧ Below w.heap.size w W ∧ W.heap[w.heap.size]? = some (.cells #[x] t (0, 0)) ∧ W.heap.size = w.heap.size + 1 :=
  ⟨_, rfl, (Below.refl _ w).alloc (Nat.le_refl _) _, box_at _ _, by simp⟩
theorem one_cell {w : World} {B : Nat} {x : Value} {t : TypeId} {fr : Nat × Nat} (h : w.heap[B]? = some (.cells #[x] t fr)) : w.cell? ⟨B, 0, none⟩ = some x := by simp [World.cell?, h]

set_option maxRecDepth 20000 in
set_option maxHeartbeats 4000000 in
theorem reach_any (ao an : Option Addr) (no nn co cn : Nat) (old new : List Int) (hno : old.length = no) (hnn : new.length = nn) (hlo : no ≤ 1000) (hln : nn ≤ 1000) (uo : Up old) (un : Up new) (al : Option Addr) (n cl : Nat) (ms : List (Int × Int)) (hn : ms.length = n) (hlm : n ≤ 1000) (hwf : Wfs ms) (w : World) (hO : IntsR w ao old) (hN : IntsR w an new) (hL : MkR w al ms) :
    Calls Try.prog 10 #[.agg #[.slice ao no co, .slice an nn cn], .slice al n cl] w fun e w' => ∃ r, e = .returned (.int .i64 r) ∧ ReachIs old new ms r ∧ Below w.heap.size w w' := by
  obtain ⟨W0, hW0, b0, x0, s0⟩ := boxed w (.slice ao no co) (.slice an nn cn)
  have ME := hide (members_any ao an no nn co cn old new hno hnn (by omega) (by omega) W0 (hO.below b0) (hN.below b0))
  have HW0 := hide hW0
  have B0 := hide b0
  have X0 := hide x0
  have HO := hide hO
  have HN := hide hN
  have HL := hide hL
  have ENO := hide hno
  have ENN := hide hnn
  have EN := hide hn
  have WF := hide hwf
  have WM := hide (wf_M uo un)
  have RE := hide (fun L (hL : L.Pairwise (· ≤ ·)) (hm : ∀ id ∈ ris (old ++ new), lastOf ms id ∈ L) e he h1 h2 => reach_of (old := old) (new := new) (ms := ms) L hL (fun id hid => hm id (mem_M.2 hid)) e he h1 h2)
  have EI := hide (enough_is old new ms)
  obtain ⟨M, hM⟩ : ∃ M, ris (old ++ new) = M := ⟨_, rfl⟩
  rw [hM] at ME WM RE EI
  clear hW0 b0 x0 s0 hO hN hL hno hnn hn hwf hM uo un
  go_enter Try.func10, Try.ntmps10
  go_wp2_with fail
  rw [unhide HW0]
  clear HW0
  refine (unhide ME).mono ?_
  rintro e w1 ⟨am, m, cm, rfl, hm, hmc, hml, fm, b1⟩
  obtain ⟨W1, hW1, c1, x1, s1⟩ := boxed1 w1 (.slice am m cm) 24
  have B1 := hide ((unhide B0).trans ((b1.trans (c1.mono b1.size)).mono (unhide B0).size))
  have X1 := hide (Below.stay c1 (Below.stay b1 (unhide X0)))
  have Z1 := hide x1
  have FM := hide (fm.1.below c1)
  have EM := hide hm
  have HW1 := hide hW1
  have LA := hide (last_any am m cm M hm hml (unhide WM) al n cl ms (unhide EN) (by omega) (unhide WF) W1 (fm.1.below c1) ((unhide HL).below (unhide B1)))
  have k1 : W1.cell? ⟨w1.heap.size, 0, none⟩ = some (.slice am m cm) := one_cell x1
  clear hm hmc fm b1 hW1 c1 x1 s1 ME B0 X0
  go_upto_region 2 with fail
  rw [unhide HW1]
  clear HW1
  go_wp2_with fail
  refine (unhide LA).mono ?_
  rintro e w2 ⟨b, c, rfl, hb, mp, hc, b2⟩
  obtain ⟨W2, hW2, c2, x2, s2⟩ := boxed1 w2 (.map (some b)) 54
  have B2 := hide ((unhide B1).trans ((b2.trans (c2.mono b2.size)).mono (unhide B1).size))
  have B12 := hide (b2.trans (c2.mono b2.size))
  have X2 := hide (Below.stay (unhide B12) (unhide X1))
  have Y2 := hide (Below.stay (unhide B12) (unhide Z1))
  have Z2 := hide x2
  have MP := hide (mp.below c2)
  have F2 := hide ((unhide FM).below (unhide B12))
  have HW2 := hide hW2
  have k2 : W2.cell? ⟨w2.heap.size, 0, none⟩ = some (.map (some b)) := one_cell x2
  have VA := hide (values_any (some b) W2)
  clear hb mp b2 hW2 c2 x2 s2 LA B1 X1 Z1 FM B12 k1
  go_upto_region 3 with fail
  rw [unhide HW2]
  clear HW2
  go_wp2_with fail
  refine (unhide VA).mono ?_
  rintro e w3 ⟨rfl, hw3⟩
  obtain ⟨W3, hW3, c3, x3, s3⟩ := boxed1 W2 (.map (some b)) 54
  rw [hW3] at hw3
  subst hw3
  have SO := hide (sorted_any W2.heap.size b c M ms w3 x3 ((unhide MP).below c3) (by omega))
  have B3 := hide c3
  clear hW3 c3 x3 s3 VA
  go_wp2_with fail
  refine (unhide SO).mono ?_
  rintro e w4 ⟨v4, L, rfl, o4, hl4, hs4, hm4, b4⟩
  obtain ⟨ai, ci, rfl, f4, hci, _⟩ := o4.slice
  obtain ⟨W4, hW4, c4, x4, s4⟩ := boxed1 w4 (.slice ai L.length ci) 24
  have B4 := hide ((unhide B3).trans ((b4.trans (c4.mono b4.size)).mono (unhide B3).size))
  have BB := hide ((unhide B2).trans ((unhide B4).mono (unhide B2).size))
  have k0 := two_cells (Below.stay (unhide B4) (unhide X2))
  have K0 := hide k0
  have K1 := hide (one_cell (Below.stay (unhide B4) (unhide Y2)))
  have K2 := hide (one_cell (Below.stay (unhide B4) (unhide Z2)))
  have K3 := hide (one_cell x4)
  have k3 := one_cell x4
  have F4 := hide (f4.1.below c4)
  have M4 := hide ((unhide MP).below (unhide B4))
  have G4 := hide ((unhide F2).below (unhide B4))
  have HW4 := hide hW4
  have RE2 := hide (unhide RE L hs4 hm4)
  clear RE
  obtain ⟨k, hk⟩ : ∃ k, L.length = k := ⟨_, rfl⟩
  have SE := hide (search_any 30 #[.pointer (some ⟨w.heap.size, 0, none⟩), .pointer (some ⟨w1.heap.size, 0, none⟩), .pointer (some ⟨w2.heap.size, 0, none⟩), .pointer (some ⟨w4.heap.size, 0, none⟩)] L.length (fun i => !qAt old new ms (L.getD i 0)) W4 (enters_of Try.func30 (by kernel_rfl) rfl) (by omega)
    (fun Y hY i hi => by
      have := asked_any w.heap.size w1.heap.size w2.heap.size w4.heap.size ao an no nn co cn old new (unhide ENO) (unhide ENN) (by omega) (by omega) am m cm M (unhide EM) hml (unhide WM) b c (cmOf M ms) ai L.length ci L rfl i hi Y
        ((hY.cell (blk_lt k0.1)).trans k0.1) ((hY.cell (blk_lt k0.2)).trans k0.2) ((hY.cell (blk_lt (unhide K1))).trans (unhide K1)) ((hY.cell (blk_lt (unhide K2))).trans (unhide K2)) ((hY.cell (blk_lt k3)).trans k3)
        (((unhide HO).below (unhide BB)).below hY) (((unhide HN).below (unhide BB)).below hY) ((unhide G4).below hY) ((unhide M4).below hY) ((unhide F4).below hY)
      rw [unhide EI] at this; exact this))
  rw [hk] at SE k3 RE2 HW4 hci ⊢
  have HK := hide hk
  have hkb : k ≤ 3000000 := by omega
  clear k0 hl4 hs4 hm4 b4 o4 f4 c4 x4 s4 hW4 SO hk
  go_upto_region 4 with fail
  rw [unhide HW4]
  clear HW4
  go_wp2_with fail
  refine (unhide SE).mono ?_
  rintro e w5 ⟨i, rfl, hi, hi1, hi2, b5⟩
  have B5 := hide ((unhide BB).trans (b5.mono (unhide BB).size))
  have k5 : w5.cell? ⟨w4.heap.size, 0, none⟩ = some (.slice ai k ci) := (b5.cell (blk_lt k3)).trans k3
  have RS := hide (unhide RE2 i hi (fun h => by have := hi1 h; simpa using this) (fun h => by have := hi2 h; simpa using this))
  have F5 := hide ((unhide F4).below b5)
  clear SE hi1 hi2 b5 RE2 k3 K3 K0
  by_cases hz : i = 0
  · rw [if_pos hz] at RS
    subst hz
    go_wp2
    go_ret
    exact ⟨0, rfl, unhide RS, unhide B5⟩
  · rw [if_neg hz] at RS
    obtain ⟨j, rfl⟩ : ∃ j, i = j + 1 := ⟨i - 1, by omega⟩
    rw [Nat.add_sub_cancel] at RS
    obtain ⟨a5, ha5, h5⟩ := unhide F5 j (by rw [unhide HK]; omega)
    subst ha5
    obtain ⟨y, hy⟩ : ∃ y, L.getD j 0 = y := ⟨_, rfl⟩
    rw [hy] at h5 RS
    have e1 : ((j + 1 : Nat) : Int) - 1 = (j : Int) := by omega
    have jb : j ≤ 3000000 := by omega
    have q : (j : Int) < k := by omega
    have hz' : (((j + 1 : Nat) : Int) == 0) = false := by simp; omega
    clear hz hy
    go_wp2
    go_ret
    exact ⟨_, rfl, unhide RS, unhide B5⟩
end Go.Proofs.Ytjcidihcmbenhaa
