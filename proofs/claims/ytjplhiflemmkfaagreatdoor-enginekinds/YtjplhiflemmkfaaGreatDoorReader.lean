/- wire's reader: fail, take: contracts by what they do to the place and to the first flaw. wire's reader: take: a contract. -/
import Derived.Test.YtjplhiflemmkfaaGreatDoorWriter
import Derived.BigQuiet
namespace Go.Proofs.YtjplhiflemmkfaaGreatDoor
open Go.RowKit

/-- a reader of n bytes: its place, and its first flaw. -/
def Re (base : Nat) (w : World) (p : Nat) (ao : Option Addr) (n cap pos er : Nat) : Prop :=
  ∃ ev, w.heap[p]? = some (.cells #[.slice ao n cap, .int .i64 (pos : Int), ev] 357 (0, 0)) ∧ base ≤ p ∧ ErrB w ev er ∧ pos ≤ n
theorem Re.lt {base : Nat} {w : World} {p : Nat} {ao : Option Addr} {n cap pos er : Nat} (h : Re base w p ao n cap pos er) : p < w.heap.size := by
  obtain ⟨ev, hp, _⟩ := h
  by_cases hl : p < w.heap.size
  · exact hl
  · rw [Array.getElem?_eq_none (by omega)] at hp; cases hp
theorem Re.below {base : Nat} {w w' : World} {p : Nat} {ao : Option Addr} {n cap pos er : Nat} (h : Re base w p ao n cap pos er) (hb : Below w.heap.size w w') : Re base w' p ao n cap pos er := by
  have hl := h.lt
  obtain ⟨ev, hp, h1, h2, h3⟩ := h
  exact ⟨ev, by rw [hb.block p hl]; exact hp, h1, h2.only (Only.of_below (ts := []) hb (Nat.le_refl _)) (by simp), h3⟩

set_option maxHeartbeats 1000000 in
theorem fail_any (base p : Nat) (ao : Option Addr) (n cap pos er : Nat) (x : Int) (k : Nat) (hk : k ≠ 0) (w : World) (h : Re base w p ao n cap pos er) (hbase : base ≤ w.heap.size) :
    Calls Tryz.prog 321 #[.pointer (some ⟨p, 0, none⟩), .int .i64 x, .int .i64 (k : Int)] w fun e w' => e = .returned (.tuple #[]) ∧ Re base w' p ao n cap pos (if er = 0 then k else er) ∧ Only base [357] w w' := by
  have hplt := h.lt
  have H := hide h
  obtain ⟨ev, hp, hbp, herr, hpos⟩ := h
  by_cases he : er = 0
  · subst he
    rw [if_pos rfl]
    obtain rfl : ev = .nilIface := herr.none
    have c2 : w.cell? ⟨p, 2, none⟩ = some .nilIface := (cell_of_block hp).trans rfl
    have f2 : w.frozen? ⟨p, 2, none⟩ = false := free_of_block hp
    have HP := hide hp
    have HK := hide hk
    clear hp herr hk
    go_enter Tryz.func321, Tryz.ntmps321
    go_wp2
    go_end0
    have k1 : ∀ u, Only base [357] w (w.setCell ⟨p, 2, none⟩ u) := fun u => (Only.refl _ _ _).setCell (p := ⟨p, 2, none⟩) hbp u (unhide HP) (by simp)
    have es : ∀ u, (w.setCell ⟨p, 2, none⟩ u).heap.size = w.heap.size := fun u => by simp [World.setCell]
    have k2 : ∀ u o, Only base [357] w ((w.setCell ⟨p, 2, none⟩ u).alloc o) := fun u o => (k1 u).alloc (by rw [es]; exact hbase) o
    have b1 : ∀ u o, ((w.setCell ⟨p, 2, none⟩ u).alloc o).heap[p]? = some (.cells #[.slice ao n cap, .int .i64 (pos : Int), u] 357 (0, 0)) := fun u o => (Below.heap_alloc _ o p (by rw [es]; exact hplt)).trans (setCell_block (unhide HP))
    have b2 : ∀ u o, ((w.setCell ⟨p, 2, none⟩ u).alloc o).heap[w.heap.size]? = some o := fun u o => by have h := heap_alloc_new (w.setCell ⟨p, 2, none⟩ u) o; rw [es] at h; exact h
    exact ⟨rfl, ⟨_, b1 _ _, hbp, Or.inr ⟨w.heap.size, _, unhide HK, rfl, b2 _ _⟩, hpos⟩, k2 _ _⟩
  · rw [if_neg he]
    rcases herr with ⟨h0, _⟩ | ⟨b, x', _, rfl, _⟩
    · exact absurd h0 he
    have c2 : w.cell? ⟨p, 2, none⟩ = some (.iface 313 (.pointer (some ⟨b, 0, none⟩))) := (cell_of_block hp).trans rfl
    clear hp
    go_enter Tryz.func321, Tryz.ntmps321
    go_wp2
    go_end0
    exact ⟨rfl, unhide H, Only.refl _ _ _⟩
end Go.Proofs.YtjplhiflemmkfaaGreatDoor
namespace Go.Proofs.YtjplhiflemmkfaaGreatDoor
open Go.RowKit

/-- what take does to the place and to the first flaw (8: cut). -/
def rtake (n k : Nat) (s : Nat × Nat) : Nat × Nat := if s.2 ≠ 0 then s else if n - s.1 < k then (s.1, 8) else (s.1 + k, 0)
/-- what take answers. -/
def taken (bs : List Nat) (k : Nat) (s : Nat × Nat) : List Nat := if (rtake bs.length k s).2 = 0 then (bs.drop s.1).take k else []

set_option maxRecDepth 20000 in
set_option maxHeartbeats 2000000 in
theorem take_any (base p : Nat) (ao : Option Addr) (n cap pos er : Nat) (bs : List Nat) (hn : bs.length = n) (k : Nat) (w : World) (h : Re base w p ao n cap pos er) (hbase : base ≤ w.heap.size)
    (hby : ∀ w', Only base [357] w w' → Bytes w' ao bs) (hcap : n ≤ cap) (hnone : ao = none → cap = 0) (hnl : n ≤ 1000000000000) (hkl : k ≤ 1000000000000) :
    Calls Tryz.prog 322 #[.pointer (some ⟨p, 0, none⟩), .int .i64 (k : Int)] w fun e w' => ∃ ao' m cap', e = .returned (.slice ao' m cap') ∧ (taken bs k (pos, er)).length = m ∧ Bytes w' ao' (taken bs k (pos, er)) ∧ (ao' = none → cap' = 0) ∧ m ≤ cap' ∧
      Re base w' p ao n cap (rtake n k (pos, er)).1 (rtake n k (pos, er)).2 ∧ Only base [357] w w' := by
  have hplt := h.lt
  have H := hide h
  have HBY := hide hby
  have HN := hide hn
  have HNONE := hide hnone
  clear hby hn hnone
  by_cases he : er = 0
  · subst he
    obtain ⟨ev, hp, hbp, herr, hpos⟩ := h
    obtain rfl : ev = .nilIface := herr.none
    have c0 : w.cell? ⟨p, 0, none⟩ = some (.slice ao n cap) := (cell_of_block hp).trans rfl
    have c1 : w.cell? ⟨p, 1, none⟩ = some (.int .i64 (pos : Int)) := (cell_of_block hp).trans rfl
    have c2 : w.cell? ⟨p, 2, none⟩ = some .nilIface := (cell_of_block hp).trans rfl
    by_cases hc : n - pos < k
    · have e1 : rtake n k (pos, 0) = (pos, 8) := by unfold rtake; rw [if_neg (by simp), if_pos hc]
      have e2 : taken bs k (pos, 0) = [] := by unfold taken; rw [unhide HN, e1]; simp
      rw [e1, e2]
      have hci : (n : Int) - (pos : Int) < (k : Int) := by omega
      clear e1 e2 hp herr
      go_enter Tryz.func322, Tryz.ntmps322
      go_wp2_with fail
      go_quiet (fail)
      have c0' : (w.drewN nq).cell? ⟨p, 0, none⟩ = some (.slice ao n cap) := c0
      go_wp2_with fail
      refine (fail_any base p ao n cap pos 0 n 8 (by decide) (w.drewN nq) ((unhide H).below (drewN_below w nq)) hbase).mono ?_
      rw [if_pos rfl]
      rintro e w1 ⟨rfl, re1, k1⟩
      have R1 := hide re1
      have K1 := hide k1
      obtain ⟨ev1, hp1, _, herr1, _⟩ := re1
      obtain ⟨b, rfl⟩ : ∃ b : Nat, ev1 = .iface 313 (.pointer (some ⟨b, 0, none⟩)) := by
        rcases herr1 with ⟨h0, _⟩ | ⟨b, x, _, h1, _⟩
        · cases h0
        · exact ⟨b, h1⟩
      have d2 : w1.cell? ⟨p, 2, none⟩ = some (.iface 313 (.pointer (some ⟨b, 0, none⟩))) := (cell_of_block hp1).trans rfl
      clear hp1 herr1 k1
      go_wp2
      go_ret
      exact ⟨none, 0, 0, rfl, rfl, ⟨by simp, by simp⟩, fun _ => rfl, Nat.le_refl _, unhide R1, (Only.of_below (drewN_below w nq) hbase).trans (unhide K1)⟩
    · have e1 : rtake n k (pos, 0) = (pos + k, 0) := by unfold rtake; rw [if_neg (by simp), if_neg hc]
      have e2 : taken bs k (pos, 0) = (bs.drop pos).take k := by unfold taken; rw [unhide HN, e1]; simp
      have e3 : ((bs.drop pos).take k).length = k := by rw [List.length_take, List.length_drop, unhide HN]; omega
      rw [e1, e2]
      have hci : ¬ (n : Int) - (pos : Int) < (k : Int) := by omega
      have f1 : ∀ q, (w.drewN q).frozen? ⟨p, 1, none⟩ = false := fun q => free_of_block hp
      have HP := hide hp
      have E3 := hide e3
      clear e1 e2 e3 hp herr
      have k1 : ∀ q u, Only base [357] w ((w.drewN q).setCell ⟨p, 1, none⟩ u) := fun q u => (Only.of_below (drewN_below w q) hbase).setCell (p := ⟨p, 1, none⟩) hbp u (unhide HP) (by simp)
      have b1 : ∀ q u q', (((w.drewN q).setCell ⟨p, 1, none⟩ u).drewN q').heap[p]? = some (.cells #[.slice ao n cap, u, .nilIface] 357 (0, 0)) := fun q u q' => setCell_block (w := w.drewN q) (unhide HP)
      have k2 : ∀ q u q', Only base [357] w (((w.drewN q).setCell ⟨p, 1, none⟩ u).drewN q') := fun q u q' => (k1 q u).trans (Only.of_below (drewN_below _ q') (by simp [World.setCell]; exact hbase))
      have K2 := hide k2
      have B1 := hide b1
      clear k1 k2 b1
      cases ao with
      | none =>
        have hc0 := unhide HNONE rfl
        subst hc0
        have hn0 : n = 0 := by omega
        subst hn0
        have hp0 : pos = 0 := by omega
        subst hp0
        have hk0 : k = 0 := by omega
        subst hk0
        go_enter Tryz.func322, Tryz.ntmps322
        go_wp2_with fail
        go_quiet (fail)
        go_wp2_with fail
        go_quiet (fail)
        go_wp2
        go_ret
        exact ⟨none, 0, 0, rfl, unhide E3, ⟨by simp, by simp⟩, fun _ => rfl, Nat.le_refl _, ⟨_, unhide B1 _ _ _, hbp, Or.inl ⟨rfl, rfl⟩, by omega⟩, unhide K2 _ _ _⟩
      | some ad =>
        by_cases hcp : cap = pos
        · have hnp : n = cap := by omega
          have hk0 : k = 0 := by omega
          subst hcp
          subst hnp
          subst hk0
          go_enter Tryz.func322, Tryz.ntmps322
          go_wp2_with fail
          go_quiet (fail)
          go_wp2_with fail
          go_quiet (fail)
          go_wp2
          go_ret
          refine ⟨some ad, 0, 0, ?_, unhide E3, ⟨by simp, by simp⟩, (fun h => by cases h), Nat.le_refl _, ⟨_, ?_, hbp, Or.inl ⟨rfl, rfl⟩, by omega⟩, unhide K2 _ _ _⟩
          · first | rfl | simp
          · exact unhide B1 _ _ _
        · go_enter Tryz.func322, Tryz.ntmps322
          go_wp2_with fail
          go_quiet (fail)
          go_wp2_with fail
          go_quiet (fail)
          go_wp2
          go_ret
          refine ⟨some (ad.add pos), k, cap - pos, ?_, unhide E3, ((unhide HBY _ (unhide K2 _ _ _)).drop pos).take k, (fun h => by cases h), by omega, ⟨_, ?_, hbp, Or.inl ⟨rfl, rfl⟩, by omega⟩, unhide K2 _ _ _⟩
          · show Ending.returned (.slice (some (ad.add pos)) (pos + k - pos) (cap - pos)) = _
            rw [Nat.add_sub_cancel_left]
          · rw [show ((pos + k : Nat) : Int) = (pos : Int) + (k : Int) by omega]; exact unhide B1 _ _ _
  · have e1 : rtake n k (pos, er) = (pos, er) := by unfold rtake; rw [if_pos he]
    have e2 : taken bs k (pos, er) = [] := by unfold taken; rw [unhide HN, e1, if_neg he]
    rw [e1, e2]
    obtain ⟨ev, hp, hbp, herr, hpos⟩ := h
    obtain ⟨b, rfl⟩ : ∃ b : Nat, ev = .iface 313 (.pointer (some ⟨b, 0, none⟩)) := by
      rcases herr with ⟨h0, _⟩ | ⟨b, x, _, h1, _⟩
      · exact absurd h0 he
      · exact ⟨b, h1⟩
    have c0 : w.cell? ⟨p, 0, none⟩ = some (.slice ao n cap) := (cell_of_block hp).trans rfl
    have c1 : w.cell? ⟨p, 1, none⟩ = some (.int .i64 (pos : Int)) := (cell_of_block hp).trans rfl
    have c2 : w.cell? ⟨p, 2, none⟩ = some (.iface 313 (.pointer (some ⟨b, 0, none⟩))) := (cell_of_block hp).trans rfl
    clear hp herr e1 e2
    by_cases hc : n - pos < k
    · have hci : (n : Int) - (pos : Int) < (k : Int) := by omega
      go_enter Tryz.func322, Tryz.ntmps322
      go_wp2_with fail
      go_quiet (fail)
      have c0' : (w.drewN nq).cell? ⟨p, 0, none⟩ = some (.slice ao n cap) := c0
      go_wp2_with fail
      refine (fail_any base p ao n cap pos er n 8 (by decide) (w.drewN nq) ((unhide H).below (drewN_below w nq)) hbase).mono ?_
      rw [if_neg he]
      rintro e w1 ⟨rfl, re1, k1⟩
      have R1 := hide re1
      have K1 := hide k1
      obtain ⟨ev1, hp1, _, herr1, _⟩ := re1
      obtain ⟨b1, rfl⟩ : ∃ b1 : Nat, ev1 = .iface 313 (.pointer (some ⟨b1, 0, none⟩)) := by
        rcases herr1 with ⟨h0, _⟩ | ⟨b1, x, _, h1, _⟩
        · exact absurd h0 he
        · exact ⟨b1, h1⟩
      have d2 : w1.cell? ⟨p, 2, none⟩ = some (.iface 313 (.pointer (some ⟨b1, 0, none⟩))) := (cell_of_block hp1).trans rfl
      clear hp1 herr1 k1
      go_wp2
      go_ret
      exact ⟨none, 0, 0, rfl, rfl, ⟨by simp, by simp⟩, fun _ => rfl, Nat.le_refl _, unhide R1, (Only.of_below (drewN_below w nq) hbase).trans (unhide K1)⟩
    · have hci : ¬ (n : Int) - (pos : Int) < (k : Int) := by omega
      go_enter Tryz.func322, Tryz.ntmps322
      go_wp2_with fail
      go_quiet (fail)
      go_wp2
      go_ret
      exact ⟨none, 0, 0, rfl, rfl, ⟨by simp, by simp⟩, fun _ => rfl, Nat.le_refl _, (unhide H).below (drewN_below w nq), Only.of_below (drewN_below w nq) hbase⟩
end Go.Proofs.YtjplhiflemmkfaaGreatDoor
