/- wire's reader: fail, take: contracts by what they do to the place and to the first flaw. wire's reader: take: a contract. wire's reader: integer, ruled, text: contracts by what they do to the place and to the first flaw. wire's reader: text, list: contracts. wire's reader: entry, config: contracts. wire's reader: config, entries: contracts. wire's reader: msg: a contract. wire's reader: end; wire.ParseEntry: contracts. -/
import Derived.Test.YtojmnlbdhpledaaDoorWriter
import Derived.BigQuiet
import Derived.Test.YtojmnlbdhpledaaDoorEncE
namespace Go.Proofs.YtojmnlbdhpledaaDoor
open Go.RowKit

/-- a reader of n bytes: its place, and its first flaw. -/
def Re (base : Nat) (w : World) (p : Nat) (ao : Option Addr) (n cap pos er : Nat) : Prop :=
  ∃ ev, w.heap[p]? = some (.cells #[.slice ao n cap, .int .i64 (pos : Int), ev] 113 (0, 0)) ∧ base ≤ p ∧ ErrB w ev er ∧ pos ≤ n
theorem Re.lt {base : Nat} {w : World} {p : Nat} {ao : Option Addr} {n cap pos er : Nat} (h : Re base w p ao n cap pos er) : p < w.heap.size := by
  obtain ⟨ev, hp, _⟩ := h
  by_cases hl : p < w.heap.size
  · exact hl
  · rw [Array.getElem?_eq_none (by omega)] at hp; cases hp
theorem Re.below {base : Nat} {w w' : World} {p : Nat} {ao : Option Addr} {n cap pos er : Nat} (h : Re base w p ao n cap pos er) (hb : Below w.heap.size w w') : Re base w' p ao n cap pos er := by
  have hl := h.lt
  obtain ⟨ev, hp, h1, h2, h3⟩ := h
  exact ⟨ev, by rw [hb.block p hl]; exact hp, h1, h2.only (Only.of_below (ts := []) hb (Nat.le_refl _)) (by simp), h3⟩

set_option maxHeartbeats 1000000 in
theorem fail_any (base p : Nat) (ao : Option Addr) (n cap pos er : Nat) (x : Int) (k : Nat) (hk : k ≠ 0) (w : World) (h : Re base w p ao n cap pos er) (hbase : base ≤ w.heap.size) :
    Calls Tryd.prog 74 #[.pointer (some ⟨p, 0, none⟩), .int .i64 x, .int .i64 (k : Int)] w fun e w' => e = .returned (.tuple #[]) ∧ Re base w' p ao n cap pos (if er = 0 then k else er) ∧ Only base [113] w w' := by
  have hplt := h.lt
  have H := hide h
  obtain ⟨ev, hp, hbp, herr, hpos⟩ := h
  by_cases he : er = 0
  · subst he
    rw [if_pos rfl]
    obtain rfl : ev = .nilIface := herr.none
    have c2 : w.cell? ⟨p, 2, none⟩ = some .nilIface := (cell_of_block hp).trans rfl
    have f2 : w.frozen? ⟨p, 2, none⟩ = false := free_of_block hp
    have HP := hide hp
    have HK := hide hk
    clear hp herr hk
    go_enter Tryd.func74, Tryd.ntmps74
    go_wp2
    go_end0
    have k1 : ∀ u, Only base [113] w (w.setCell ⟨p, 2, none⟩ u) := fun u => (Only.refl _ _ _).setCell (p := ⟨p, 2, none⟩) hbp u (unhide HP) (by simp)
    have es : ∀ u, (w.setCell ⟨p, 2, none⟩ u).heap.size = w.heap.size := fun u => by simp [World.setCell]
    have k2 : ∀ u o, Only base [113] w ((w.setCell ⟨p, 2, none⟩ u).alloc o) := fun u o => (k1 u).alloc (by rw [es]; exact hbase) o
    have b1 : ∀ u o, ((w.setCell ⟨p, 2, none⟩ u).alloc o).heap[p]? = some (.cells #[.slice ao n cap, .int .i64 (pos : Int), u] 113 (0, 0)) := fun u o => (Below.heap_alloc _ o p (by rw [es]; exact hplt)).trans (setCell_block (unhide HP))
    have b2 : ∀ u o, ((w.setCell ⟨p, 2, none⟩ u).alloc o).heap[w.heap.size]? = some o := fun u o => by have h := heap_alloc_new (w.setCell ⟨p, 2, none⟩ u) o; rw [es] at h; exact h
    exact ⟨rfl, ⟨_, b1 _ _, hbp, Or.inr ⟨w.heap.size, _, unhide HK, rfl, b2 _ _⟩, hpos⟩, k2 _ _⟩
  · rw [if_neg he]
    rcases herr with ⟨h0, _⟩ | ⟨b, x', _, rfl, _⟩
    · exact absurd h0 he
    have c2 : w.cell? ⟨p, 2, none⟩ = some (.iface 124 (.pointer (some ⟨b, 0, none⟩))) := (cell_of_block hp).trans rfl
    clear hp
    go_enter Tryd.func74, Tryd.ntmps74
    go_wp2
    go_end0
    exact ⟨rfl, unhide H, Only.refl _ _ _⟩
end Go.Proofs.YtojmnlbdhpledaaDoor
namespace Go.Proofs.YtojmnlbdhpledaaDoor
open Go.RowKit

/-- what take does to the place and to the first flaw (8: cut). -/
def rtake (n k : Nat) (s : Nat × Nat) : Nat × Nat := if s.2 ≠ 0 then s else if n - s.1 < k then (s.1, 8) else (s.1 + k, 0)
/-- what take answers. -/
def taken (bs : List Nat) (k : Nat) (s : Nat × Nat) : List Nat := if (rtake bs.length k s).2 = 0 then (bs.drop s.1).take k else []

set_option maxRecDepth 20000 in
set_option maxHeartbeats 2000000 in
theorem take_any (base p : Nat) (ao : Option Addr) (n cap pos er : Nat) (bs : List Nat) (hn : bs.length = n) (k : Nat) (w : World) (h : Re base w p ao n cap pos er) (hbase : base ≤ w.heap.size)
    (hby : ∀ w', Only base [113] w w' → Bytes w' ao bs) (hcap : n ≤ cap) (hnone : ao = none → cap = 0) (hnl : n ≤ 1000000000000) (hkl : k ≤ 1000000000000) :
    Calls Tryd.prog 76 #[.pointer (some ⟨p, 0, none⟩), .int .i64 (k : Int)] w fun e w' => ∃ ao' m cap', e = .returned (.slice ao' m cap') ∧ (taken bs k (pos, er)).length = m ∧ Bytes w' ao' (taken bs k (pos, er)) ∧ (ao' = none → cap' = 0) ∧ m ≤ cap' ∧
      Re base w' p ao n cap (rtake n k (pos, er)).1 (rtake n k (pos, er)).2 ∧ Only base [113] w w' := by
  have hplt := h.lt
  have H := hide h
  have HBY := hide hby
  have HN := hide hn
  have HNONE := hide hnone
  clear hby hn hnone
  by_cases he : er = 0
  · subst he
    obtain ⟨ev, hp, hbp, herr, hpos⟩ := h
    obtain rfl : ev = .nilIface := herr.none
    have c0 : w.cell? ⟨p, 0, none⟩ = some (.slice ao n cap) := (cell_of_block hp).trans rfl
    have c1 : w.cell? ⟨p, 1, none⟩ = some (.int .i64 (pos : Int)) := (cell_of_block hp).trans rfl
    have c2 : w.cell? ⟨p, 2, none⟩ = some .nilIface := (cell_of_block hp).trans rfl
    by_cases hc : n - pos < k
    · have e1 : rtake n k (pos, 0) = (pos, 8) := by unfold rtake; rw [if_neg (by simp), if_pos hc]
      have e2 : taken bs k (pos, 0) = [] := by unfold taken; rw [unhide HN, e1]; simp
      rw [e1, e2]
      have hci : (n : Int) - (pos : Int) < (k : Int) := by omega
      clear e1 e2 hp herr
      go_enter Tryd.func76, Tryd.ntmps76
      go_wp2_with fail
      go_quiet (fail)
      have c0' : (w.drewN nq).cell? ⟨p, 0, none⟩ = some (.slice ao n cap) := c0
      go_wp2_with fail
      refine (fail_any base p ao n cap pos 0 n 8 (by decide) (w.drewN nq) ((unhide H).below (drewN_below w nq)) hbase).mono ?_
      rw [if_pos rfl]
      rintro e w1 ⟨rfl, re1, k1⟩
      have R1 := hide re1
      have K1 := hide k1
      obtain ⟨ev1, hp1, _, herr1, _⟩ := re1
      obtain ⟨b, rfl⟩ : ∃ b : Nat, ev1 = .iface 124 (.pointer (some ⟨b, 0, none⟩)) := by
        rcases herr1 with ⟨h0, _⟩ | ⟨b, x, _, h1, _⟩
        · cases h0
        · exact ⟨b, h1⟩
      have d2 : w1.cell? ⟨p, 2, none⟩ = some (.iface 124 (.pointer (some ⟨b, 0, none⟩))) := (cell_of_block hp1).trans rfl
      clear hp1 herr1 k1
      go_wp2
      go_ret
      exact ⟨none, 0, 0, rfl, rfl, ⟨by simp, by simp⟩, fun _ => rfl, Nat.le_refl _, unhide R1, (Only.of_below (drewN_below w nq) hbase).trans (unhide K1)⟩
    · have e1 : rtake n k (pos, 0) = (pos + k, 0) := by unfold rtake; rw [if_neg (by simp), if_neg hc]
      have e2 : taken bs k (pos, 0) = (bs.drop pos).take k := by unfold taken; rw [unhide HN, e1]; simp
      have e3 : ((bs.drop pos).take k).length = k := by rw [List.length_take, List.length_drop, unhide HN]; omega
      rw [e1, e2]
      have hci : ¬ (n : Int) - (pos : Int) < (k : Int) := by omega
      have f1 : ∀ q, (w.drewN q).frozen? ⟨p, 1, none⟩ = false := fun q => free_of_block hp
      have HP := hide hp
      have E3 := hide e3
      clear e1 e2 e3 hp herr
      have k1 : ∀ q u, Only base [113] w ((w.drewN q).setCell ⟨p, 1, none⟩ u) := fun q u => (Only.of_below (drewN_below w q) hbase).setCell (p := ⟨p, 1, none⟩) hbp u (unhide HP) (by simp)
      have b1 : ∀ q u q', (((w.drewN q).setCell ⟨p, 1, none⟩ u).drewN q').heap[p]? = some (.cells #[.slice ao n cap, u, .nilIface] 113 (0, 0)) := fun q u q' => setCell_block (w := w.drewN q) (unhide HP)
      have k2 : ∀ q u q', Only base [113] w (((w.drewN q).setCell ⟨p, 1, none⟩ u).drewN q') := fun q u q' => (k1 q u).trans (Only.of_below (drewN_below _ q') (by simp [World.setCell]; exact hbase))
      have K2 := hide k2
      have B1 := hide b1
      clear k1 k2 b1
      cases ao with
      | none =>
        have hc0 := unhide HNONE rfl
        subst hc0
        have hn0 : n = 0 := by omega
        subst hn0
        have hp0 : pos = 0 := by omega
        subst hp0
        have hk0 : k = 0 := by omega
        subst hk0
        go_enter Tryd.func76, Tryd.ntmps76
        go_wp2_with fail
        go_quiet (fail)
        go_wp2_with fail
        go_quiet (fail)
        go_wp2
        go_ret
        exact ⟨none, 0, 0, rfl, unhide E3, ⟨by simp, by simp⟩, fun _ => rfl, Nat.le_refl _, ⟨_, unhide B1 _ _ _, hbp, Or.inl ⟨rfl, rfl⟩, by omega⟩, unhide K2 _ _ _⟩
      | some ad =>
        by_cases hcp : cap = pos
        · have hnp : n = cap := by omega
          have hk0 : k = 0 := by omega
          subst hcp
          subst hnp
          subst hk0
          go_enter Tryd.func76, Tryd.ntmps76
          go_wp2_with fail
          go_quiet (fail)
          go_wp2_with fail
          go_quiet (fail)
          go_wp2
          go_ret
          refine ⟨some ad, 0, 0, ?_, unhide E3, ⟨by simp, by simp⟩, (fun h => by cases h), Nat.le_refl _, ⟨_, ?_, hbp, Or.inl ⟨rfl, rfl⟩, by omega⟩, unhide K2 _ _ _⟩
          · first | rfl | simp
          · exact unhide B1 _ _ _
        · go_enter Tryd.func76, Tryd.ntmps76
          go_wp2_with fail
          go_quiet (fail)
          go_wp2_with fail
          go_quiet (fail)
          go_wp2
          go_ret
          refine ⟨some (ad.add pos), k, cap - pos, ?_, unhide E3, ((unhide HBY _ (unhide K2 _ _ _)).drop pos).take k, (fun h => by cases h), by omega, ⟨_, ?_, hbp, Or.inl ⟨rfl, rfl⟩, by omega⟩, unhide K2 _ _ _⟩
          · show Ending.returned (.slice (some (ad.add pos)) (pos + k - pos) (cap - pos)) = _
            rw [Nat.add_sub_cancel_left]
          · rw [show ((pos + k : Nat) : Int) = (pos : Int) + (k : Int) by omega]; exact unhide B1 _ _ _
  · have e1 : rtake n k (pos, er) = (pos, er) := by unfold rtake; rw [if_pos he]
    have e2 : taken bs k (pos, er) = [] := by unfold taken; rw [unhide HN, e1, if_neg he]
    rw [e1, e2]
    obtain ⟨ev, hp, hbp, herr, hpos⟩ := h
    obtain ⟨b, rfl⟩ : ∃ b : Nat, ev = .iface 124 (.pointer (some ⟨b, 0, none⟩)) := by
      rcases herr with ⟨h0, _⟩ | ⟨b, x, _, h1, _⟩
      · exact absurd h0 he
      · exact ⟨b, h1⟩
    have c0 : w.cell? ⟨p, 0, none⟩ = some (.slice ao n cap) := (cell_of_block hp).trans rfl
    have c1 : w.cell? ⟨p, 1, none⟩ = some (.int .i64 (pos : Int)) := (cell_of_block hp).trans rfl
    have c2 : w.cell? ⟨p, 2, none⟩ = some (.iface 124 (.pointer (some ⟨b, 0, none⟩))) := (cell_of_block hp).trans rfl
    clear hp herr e1 e2
    by_cases hc : n - pos < k
    · have hci : (n : Int) - (pos : Int) < (k : Int) := by omega
      go_enter Tryd.func76, Tryd.ntmps76
      go_wp2_with fail
      go_quiet (fail)
      have c0' : (w.drewN nq).cell? ⟨p, 0, none⟩ = some (.slice ao n cap) := c0
      go_wp2_with fail
      refine (fail_any base p ao n cap pos er n 8 (by decide) (w.drewN nq) ((unhide H).below (drewN_below w nq)) hbase).mono ?_
      rw [if_neg he]
      rintro e w1 ⟨rfl, re1, k1⟩
      have R1 := hide re1
      have K1 := hide k1
      obtain ⟨ev1, hp1, _, herr1, _⟩ := re1
      obtain ⟨b1, rfl⟩ : ∃ b1 : Nat, ev1 = .iface 124 (.pointer (some ⟨b1, 0, none⟩)) := by
        rcases herr1 with ⟨h0, _⟩ | ⟨b1, x, _, h1, _⟩
        · exact absurd h0 he
        · exact ⟨b1, h1⟩
      have d2 : w1.cell? ⟨p, 2, none⟩ = some (.iface 124 (.pointer (some ⟨b1, 0, none⟩))) := (cell_of_block hp1).trans rfl
      clear hp1 herr1 k1
      go_wp2
      go_ret
      exact ⟨none, 0, 0, rfl, rfl, ⟨by simp, by simp⟩, fun _ => rfl, Nat.le_refl _, unhide R1, (Only.of_below (drewN_below w nq) hbase).trans (unhide K1)⟩
    · have hci : ¬ (n : Int) - (pos : Int) < (k : Int) := by omega
      go_enter Tryd.func76, Tryd.ntmps76
      go_wp2_with fail
      go_quiet (fail)
      go_wp2
      go_ret
      exact ⟨none, 0, 0, rfl, rfl, ⟨by simp, by simp⟩, fun _ => rfl, Nat.le_refl _, (unhide H).below (drewN_below w nq), Only.of_below (drewN_below w nq) hbase⟩
end Go.Proofs.YtojmnlbdhpledaaDoor
namespace Go.Proofs.YtojmnlbdhpledaaDoor
open Go.RowKit

/-- the bytes that a reader reads. -/
structure Src (base : Nat) (w : World) (ao : Option Addr) (n m : Nat) (bs : List Nat) : Prop where
  len : bs.length = n
  room : n ≤ m
  nul : ao = none → m = 0
  big : n ≤ 1000000000000
  stay : ∀ w', Only base [113] w w' → Bytes w' ao bs
theorem Src.only {base : Nat} {w w' : World} {ao : Option Addr} {n m : Nat} {bs : List Nat} (h : Src base w ao n m bs) (ho : Only base [113] w w') : Src base w' ao n m bs :=
  ⟨h.len, h.room, h.nul, h.big, fun w2 h2 => h.stay w2 (ho.trans h2)⟩

theorem taken_le (bs : List Nat) (k : Nat) (s : Nat × Nat) : (taken bs k s).length ≤ k := by
  unfold taken; split
  · rw [List.length_take]; omega
  · simp
theorem taken_one (bs : List Nat) (s : Nat × Nat) (h : ∀ x ∈ taken bs 1 s, x < 256) : joinTo 0 (taken bs 1 s) < 256 := by
  have hl := taken_le bs 1 s
  generalize taken bs 1 s = l at *
  match l with
  | [] => simp [joinTo]
  | [x] => have := h x (by simp); simp [joinTo]; exact this
  | _ :: _ :: _ => simp at hl
theorem joined_n (ao : Option Addr) (n cap : Nat) (bs : List Nat) (hn : bs.length = n) (w : World) (hb : Bytes w ao bs) (hl : n ≤ 140737488355328) :
    Calls Tryd.prog 75 #[.slice ao n cap] w fun e w' => e = .returned (.int .u64 ((joinTo 0 bs : Nat) : Int)) ∧ w' = w := by
  subst hn
  cases ao with
  | none => exact joined_none cap bs w hb
  | some a => exact joined_some a cap bs w hb hl

/-- what integer answers. -/
def rint (bs : List Nat) (s : Nat × Nat) : Int := wrap64 ((joinTo 0 (taken bs 8 s) : Nat) : Int)

set_option maxHeartbeats 1000000 in
theorem integer_any (base p : Nat) (ao : Option Addr) (n cap : Nat) (s : Nat × Nat) (bs : List Nat) (w : World) (h : Re base w p ao n cap s.1 s.2) (hs : Src base w ao n cap bs) (hbase : base ≤ w.heap.size) :
    Calls Tryd.prog 64 #[.pointer (some ⟨p, 0, none⟩)] w fun e w' => e = .returned (.int .i64 (rint bs s)) ∧ Re base w' p ao n cap (rtake n 8 s).1 (rtake n 8 s).2 ∧ Only base [113] w w' := by
  have T := hide (take_any base p ao n cap s.1 s.2 bs hs.len 8 w h hbase hs.stay hs.room hs.nul hs.big (by decide))
  clear h hs
  go_enter Tryd.func64, Tryd.ntmps64
  go_wp2_with fail
  refine (unhide T).mono ?_
  rintro e w1 ⟨ao1, m1, cap1, rfl, l1, b1, _, c1, r1, k1⟩
  have hm := taken_le bs 8 (s.1, s.2)
  rw [l1] at hm
  have J := hide (joined_n ao1 m1 cap1 _ l1 w1 b1 (by omega))
  have R1 := hide r1
  have K1 := hide k1
  clear r1 k1 l1 b1 T
  go_wp2_with fail
  refine (unhide J).mono ?_
  rintro e w2 ⟨rfl, rfl⟩
  clear J
  go_wp2
  go_ret
  exact ⟨rfl, unhide R1, unhide K1⟩

/-- what ruled answers, and does. -/
def rrule (bs : List Nat) (q : Nat) (s : Nat × Nat) : Nat × (Nat × Nat) :=
  if refuse q (joinTo 0 (taken bs 1 s) : Nat) = 0 then (joinTo 0 (taken bs 1 s), rtake bs.length 1 s)
  else (0, ((rtake bs.length 1 s).1, if (rtake bs.length 1 s).2 = 0 then refuse q (joinTo 0 (taken bs 1 s) : Nat) else (rtake bs.length 1 s).2))

set_option maxHeartbeats 1000000 in
theorem druled_any (base p q : Nat) (hq : q < 7) (ao : Option Addr) (n cap : Nat) (s : Nat × Nat) (bs : List Nat) (w : World) (h : Re base w p ao n cap s.1 s.2) (hs : Src base w ao n cap bs) (hbase : base ≤ w.heap.size) :
    Calls Tryd.prog 63 #[.pointer (some ⟨p, 0, none⟩), .int .i64 q] w fun e w' => e = .returned (.int .i64 ((rrule bs q s).1 : Nat)) ∧ Re base w' p ao n cap (rrule bs q s).2.1 (rrule bs q s).2.2 ∧ Only base [113] w w' := by
  have T := hide (take_any base p ao n cap s.1 s.2 bs hs.len 1 w h hbase hs.stay hs.room hs.nul hs.big (by decide))
  have hbig := hs.big
  have e0 : bs.length = n := hs.len
  have e1 : rrule bs q s = if refuse q (joinTo 0 (taken bs 1 s) : Nat) = 0 then (joinTo 0 (taken bs 1 s), rtake n 1 s) else (0, ((rtake n 1 s).1, if (rtake n 1 s).2 = 0 then refuse q (joinTo 0 (taken bs 1 s) : Nat) else (rtake n 1 s).2)) := by unfold rrule; rw [e0]
  have E1 := hide e1
  clear h hs e0 e1
  go_enter Tryd.func63, Tryd.ntmps63
  go_wp2_with fail
  refine (unhide T).mono ?_
  rintro e w1 ⟨ao1, m1, cap1, rfl, l1, b1, _, c1, r1, k1⟩
  have hm := taken_le bs 1 (s.1, s.2)
  rw [l1] at hm
  have hv := taken_one bs (s.1, s.2) b1.1
  have J := hide (joined_n ao1 m1 cap1 _ l1 w1 b1 (by omega))
  have hsz := k1.size
  have R1 := hide r1
  have K1 := hide k1
  obtain ⟨ev1, hp1, hbp1, _, hpos1⟩ := r1
  have c1' : w1.cell? ⟨p, 1, none⟩ = some (.int .i64 (((rtake n 1 (s.1, s.2)).1 : Nat) : Int)) := (cell_of_block hp1).trans rfl
  clear k1 l1 b1 T hp1
  change Hid (rrule bs q s = if refuse q (joinTo 0 (taken bs 1 (s.1, s.2)) : Nat) = 0 then (joinTo 0 (taken bs 1 (s.1, s.2)), rtake n 1 (s.1, s.2)) else (0, ((rtake n 1 (s.1, s.2)).1, if (rtake n 1 (s.1, s.2)).2 = 0 then refuse q (joinTo 0 (taken bs 1 (s.1, s.2)) : Nat) else (rtake n 1 (s.1, s.2)).2))) at E1
  generalize rtake n 1 (s.1, s.2) = t at *
  generalize joinTo 0 (taken bs 1 (s.1, s.2)) = v at *
  obtain ⟨t1, t2⟩ := t
  go_wp2_with fail
  refine (unhide J).mono ?_
  rintro e w2 ⟨rfl, rfl⟩
  clear J
  go_wp2_with fail
  refine (refusal_any q hq (v : Int) w2).mono ?_
  rintro e w3 ⟨rfl, rfl⟩
  obtain ⟨rf, hrf⟩ : ∃ rf, refuse q (v : Int) = rf := ⟨_, rfl⟩
  rw [hrf] at E1 ⊢
  clear hrf
  by_cases hr : rf = 0
  · subst hr
    have e2 := unhide E1
    rw [if_pos rfl] at e2
    have E2 := hide e2
    clear E1 e2
    go_wp2
    go_ret
    rw [unhide E2]
    exact ⟨rfl, unhide R1, unhide K1⟩
  · have hri : ¬ (rf : Int) = 0 := by omega
    have e2 := unhide E1
    rw [if_neg hr] at e2
    have E2 := hide e2
    have HR := hide hr
    clear hr E1 e2
    go_wp2_with fail
    refine (fail_any base p ao n cap t1 t2 _ rf (unhide HR) w3 (unhide R1) (Nat.le_trans hbase hsz)).mono ?_
    rintro e w4 ⟨rfl, r4, k4⟩
    have R4 := hide r4
    have K4 := hide k4
    clear r4 k4
    go_wp2
    go_ret
    rw [unhide E2]
    exact ⟨rfl, unhide R4, (unhide K1).trans (unhide K4)⟩

/-- what text answers, and does. -/
def rtext (bs : List Nat) (s : Nat × Nat) : List Nat × (Nat × Nat) := (taken bs (rrule bs 4 s).1 (rrule bs 4 s).2, rtake bs.length (rrule bs 4 s).1 (rrule bs 4 s).2)
theorem rrule_le (bs : List Nat) (q : Nat) (s : Nat × Nat) : (rrule bs q s).1 ≤ 64 := by
  unfold rrule
  split
  · rename_i h; have := (refuse_range h).2; simp only; omega
  · simp
/-- a reader that is under way since w0. -/
def Rg (base : Nat) (w0 w : World) (p : Nat) (ao : Option Addr) (n cap : Nat) (bs : List Nat) (s : Nat × Nat) : Prop :=
  Re base w p ao n cap s.1 s.2 ∧ Src base w ao n cap bs ∧ base ≤ w.heap.size ∧ Only base [113] w0 w
theorem Rg.next {base : Nat} {w0 w w' : World} {p : Nat} {ao : Option Addr} {n cap : Nat} {bs : List Nat} {s s' : Nat × Nat} (h : Rg base w0 w p ao n cap bs s) (hr : Re base w' p ao n cap s'.1 s'.2) (hk : Only base [113] w w') : Rg base w0 w' p ao n cap bs s' :=
  ⟨hr, h.2.1.only hk, Nat.le_trans h.2.2.1 hk.size, h.2.2.2.trans hk⟩
theorem Only.fresh {base : Nat} {ts : List TypeId} {w w2 w3 : World} (h : Only base ts w w2) (hb : Below w.heap.size w2 w3) (hbase : base ≤ w.heap.size) : Only base ts w w3 := by
  refine ⟨h.1.trans (hb.mono hbase), fun k hk hn => ?_⟩
  rw [hb.block k hk]; exact h.2 k hk hn
end Go.Proofs.YtojmnlbdhpledaaDoor
namespace Go.Proofs.YtojmnlbdhpledaaDoor
open Go.RowKit

set_option maxHeartbeats 1000000 in
theorem dtext_any (base p : Nat) (ao : Option Addr) (n cap : Nat) (s : Nat × Nat) (bs : List Nat) (w : World) (h : Re base w p ao n cap s.1 s.2) (hs : Src base w ao n cap bs) (hbase : base ≤ w.heap.size) :
    Calls Tryd.prog 65 #[.pointer (some ⟨p, 0, none⟩)] w fun e w' => e = .returned (.string (str (rtext bs s).1)) ∧ Re base w' p ao n cap (rtext bs s).2.1 (rtext bs s).2.2 ∧ Only base [113] w w' := by
  have U := hide (druled_any base p 4 (by decide) ao n cap s bs w h hs hbase)
  have HS := hide hs
  have hk := rrule_le bs 4 s
  have E1 : Hid (rtext bs s = (taken bs (rrule bs 4 s).1 (rrule bs 4 s).2, rtake n (rrule bs 4 s).1 (rrule bs 4 s).2)) := by show _ = _; unfold rtext; rw [hs.len]
  clear h hs
  generalize rrule bs 4 s = r at *
  obtain ⟨k, t1, t2⟩ := r
  go_enter Tryd.func65, Tryd.ntmps65
  go_wp2_with fail
  refine (unhide U).mono ?_
  rintro e w1 ⟨rfl, r1, k1⟩
  have T := hide (take_any base p ao n cap t1 t2 bs (unhide HS).len k w1 r1 (Nat.le_trans hbase k1.size) (fun w' ho => (unhide HS).stay w' (k1.trans ho)) (unhide HS).room (unhide HS).nul (unhide HS).big (Nat.le_trans hk (by decide)))
  have K1 := hide k1
  clear U r1 k1
  go_wp2_with fail
  refine (unhide T).mono ?_
  rintro e w2 ⟨ao2, m2, cap2, rfl, l2, b2, _, _, r2, k2⟩
  have cv := conv_str (cap := cap2) b2 l2
  have R2 := hide r2
  have K2 := hide k2
  clear T r2 k2 b2 l2
  go_wp2
  go_ret
  rw [unhide E1]
  exact ⟨rfl, unhide R2, (unhide K1).trans (unhide K2)⟩

/-- what list's loop makes in k rounds. -/
def rlistN (bs : List Nat) : Nat → (Nat × Nat) → List Int × (Nat × Nat)
  | 0, s => ([], s)
  | k + 1, s => ((rlistN bs k s).1 ++ [rint bs (rlistN bs k s).2], rtake bs.length 8 (rlistN bs k s).2)
theorem rlistN_len (bs : List Nat) (k : Nat) (s : Nat × Nat) : (rlistN bs k s).1.length = k := by
  induction k with
  | zero => rfl
  | succ k ih => simp [rlistN, ih]
/-- what list answers, and does. -/
def rlist (bs : List Nat) (q : Nat) (s : Nat × Nat) : List Int × (Nat × Nat) := rlistN bs (rrule bs q s).1 (rrule bs q s).2
def i64s (ys : List Int) : List Value := ys.map (Value.int .i64)
theorem one_int (a : Int) : ∀ u ∈ [Value.int .i64 a], u.oneCell' = true := by intro u hu; simp only [List.mem_cons, List.not_mem_nil, or_false] at hu; subst hu; rfl
theorem Tryd.info_int : (Tryd.prog.info? 3).map (fun i => (i.zero, i.size, i.bytes)) = some (some (.int .i64 0), 1, 8) := by kernel_rfl
theorem Re.own {base b : Nat} {w w' : World} {p : Nat} {ao : Option Addr} {n cap pos er : Nat} (h : Re base w p ao n cap pos er) {ts : List TypeId} (hk : Only b ts w w') (h1 : 113 ∉ ts) (h2 : 126 ∉ ts) : Re base w' p ao n cap pos er := by
  obtain ⟨ev, hp, hb, he, hpos⟩ := h
  exact ⟨ev, by rw [hk.block hp h1], hb, he.only hk h2, hpos⟩

set_option maxHeartbeats 2000000 in
theorem dlist_any (base p q : Nat) (hq : q < 7) (ao : Option Addr) (n cap : Nat) (s : Nat × Nat) (bs : List Nat) (w : World) (h : Re base w p ao n cap s.1 s.2) (hs : Src base w ao n cap bs) (hbase : base ≤ w.heap.size) :
    Calls Tryd.prog 66 #[.pointer (some ⟨p, 0, none⟩), .int .i64 q] w fun e w' => ∃ v, e = .returned v ∧ w'.ownsRow w.heap.size 3 1 v (rlist bs q s).1.length (i64s (rlist bs q s).1) ∧ Re base w' p ao n cap (rlist bs q s).2.1 (rlist bs q s).2.2 ∧ Only base [113] w w' := by
  have U := hide (druled_any base p q hq ao n cap s bs w h hs hbase)
  have HS := hide hs
  have hk := rrule_le bs q s
  have E1 : Hid (rlist bs q s = rlistN bs (rrule bs q s).1 (rrule bs q s).2) := by show _ = _; rfl
  have HN : Hid (bs.length = n) := hs.len
  clear h hs
  generalize rrule bs q s = r at *
  obtain ⟨k, t⟩ := r
  obtain ⟨i0, hi, hz0, hz1, hz2⟩ := info_parts Tryd.info_int
  go_enter Tryd.func66, Tryd.ntmps66
  go_wp2_with fail
  refine (unhide U).mono ?_
  rintro e w1 ⟨rfl, r1, k1⟩
  have R1 := hide r1
  have K1 := hide k1
  have s1 : w.heap.size ≤ w1.heap.size := k1.size
  clear U r1 k1
  go_wp2_with fail
  go_loopg [5, 9] k (fun g lv iv wr => ∃ j : Nat, j + g = k ∧ iv = .int .i64 (j : Int) ∧ wr.ownsRow w.heap.size 3 1 lv j (i64s (rlistN bs j t).1) ∧ Re base wr p ao n cap (rlistN bs j t).2.1 (rlistN bs j t).2.2 ∧ Only base [113] w wr)
  case atStart => exact ⟨0, by omega, rfl, World.ownsRow_nil _ _ _ _, unhide R1, unhide K1⟩
  case round =>
    obtain ⟨j, hj, rfl, ho, hr, hon⟩ := hrel
    have HJ := hide hj
    have HO := hide ho
    have HON := hide hon
    have sr : w.heap.size ≤ wr.heap.size := hon.size
    have hjk : j ≤ k := by omega
    by_cases hlt : j < k
    · have I := hide (integer_any base p ao n cap (rlistN bs j t).2 bs wr hr ((unhide HS).only hon) (Nat.le_trans hbase sr))
      have ER : Hid (rlistN bs (j + 1) t = ((rlistN bs j t).1 ++ [rint bs (rlistN bs j t).2], rtake n 8 (rlistN bs j t).2)) := by show _ = _; rw [rlistN, unhide HN]
      clear hj ho hr hon
      generalize rint bs (rlistN bs j t).2 = y at *
      generalize rtake n 8 (rlistN bs j t).2 = u at *
      generalize (rlistN bs j t).1 = ys at *
      go_wp2_with fail
      refine (unhide I).mono ?_
      rintro e w2 ⟨rfl, r2, k2⟩
      have O2 := hide (own_only (unhide HO) k2 (by decide))
      have R2 := hide r2
      have K2 := hide ((unhide HON).trans k2)
      have s2 : w.heap.size ≤ w2.heap.size := Nat.le_trans sr k2.size
      clear I r2 k2 HO HON
      go_wp2_with (at_builtin; refine wpList_append_own _ rfl (.tmp 11) (.tmp 14) 22 rfl w.heap.size 3 i0 (.int .i64 0) 1 8 Tryd.underlying22 hi hz0 hz1 hz2 rfl (by decide) _ _ _ rfl ((unhide O2).alloc _) ⟨w2.heap.size, 0, none⟩ 1 1 _ rfl rfl news_at (one_int _) (by unfold maxLen; omega) (by omega) (by simp; omega) ?_)
      intro v3 w3 own3 grow3 _
      have p3 := (Only.refl w.heap.size [3] w2).alloc s2 (.cells #[.int .i64 y] 3)
      have p4 := p3.own ((unhide O2).alloc _) grow3 (by simp; omega) (Nat.le_refl _) (by simp)
      have R3 := hide ((unhide R2).own p4 (by decide) (by decide))
      have O3 := hide own3
      have K3 := hide ((unhide K2).fresh p4.below hbase)
      clear own3 grow3 p3 p4 R2 O2 K2
      go_wp2
      go_roundg (k - (j + 1))
      case measure => have := unhide HJ; omega
      case rel =>
        refine ⟨j + 1, by omega, by go_num, ?_, by rw [unhide ER]; exact unhide R3, unhide K3⟩
        rw [unhide ER]
        have h := unhide O3
        simp only [i64s, List.map_append, List.map_cons, List.map_nil] at h ⊢
        exact h
    · have ej : j = k := by omega
      subst ej
      have HR := hide hr
      clear hj ho hr hon
      go_wp2
      go_ret
      refine ⟨_, rfl, ?_, ?_, unhide HON⟩
      · rw [unhide E1]; simp only [rlistN_len]; exact unhide HO
      · rw [unhide E1]; exact unhide HR

/-! ### the same, of a reader under way -/
theorem rg_int {base : Nat} {w0 w : World} {p : Nat} {ao : Option Addr} {n cap : Nat} {bs : List Nat} {s : Nat × Nat} (h : Rg base w0 w p ao n cap bs s) :
    Calls Tryd.prog 64 #[.pointer (some ⟨p, 0, none⟩)] w fun e w' => e = .returned (.int .i64 (rint bs s)) ∧ Rg base w0 w' p ao n cap bs (rtake n 8 s) ∧ Only base [113] w w' := by
  refine (integer_any base p ao n cap s bs w h.1 h.2.1 h.2.2.1).mono ?_
  rintro e w' ⟨rfl, r, k⟩
  exact ⟨rfl, h.next r k, k⟩
theorem rg_rule {base : Nat} {w0 w : World} {p : Nat} {ao : Option Addr} {n cap : Nat} {bs : List Nat} {s : Nat × Nat} (q : Nat) (hq : q < 7) (h : Rg base w0 w p ao n cap bs s) :
    Calls Tryd.prog 63 #[.pointer (some ⟨p, 0, none⟩), .int .i64 q] w fun e w' => e = .returned (.int .i64 ((rrule bs q s).1 : Nat)) ∧ Rg base w0 w' p ao n cap bs (rrule bs q s).2 ∧ Only base [113] w w' := by
  refine (druled_any base p q hq ao n cap s bs w h.1 h.2.1 h.2.2.1).mono ?_
  rintro e w' ⟨rfl, r, k⟩
  exact ⟨rfl, h.next r k, k⟩
theorem rg_text {base : Nat} {w0 w : World} {p : Nat} {ao : Option Addr} {n cap : Nat} {bs : List Nat} {s : Nat × Nat} (h : Rg base w0 w p ao n cap bs s) :
    Calls Tryd.prog 65 #[.pointer (some ⟨p, 0, none⟩)] w fun e w' => e = .returned (.string (str (rtext bs s).1)) ∧ Rg base w0 w' p ao n cap bs (rtext bs s).2 ∧ Only base [113] w w' := by
  refine (dtext_any base p ao n cap s bs w h.1 h.2.1 h.2.2.1).mono ?_
  rintro e w' ⟨rfl, r, k⟩
  exact ⟨rfl, h.next r k, k⟩
theorem rg_list {base : Nat} {w0 w : World} {p : Nat} {ao : Option Addr} {n cap : Nat} {bs : List Nat} {s : Nat × Nat} (q : Nat) (hq : q < 7) (h : Rg base w0 w p ao n cap bs s) :
    Calls Tryd.prog 66 #[.pointer (some ⟨p, 0, none⟩), .int .i64 q] w fun e w' => ∃ v, e = .returned v ∧ w'.ownsRow w.heap.size 3 1 v (rlist bs q s).1.length (i64s (rlist bs q s).1) ∧ Rg base w0 w' p ao n cap bs (rlist bs q s).2 ∧ Only base [113] w w' := by
  refine (dlist_any base p q hq ao n cap s bs w h.1 h.2.1 h.2.2.1).mono ?_
  rintro e w' ⟨v, rfl, o, r, k⟩
  exact ⟨v, rfl, o, h.next r k, k⟩
end Go.Proofs.YtojmnlbdhpledaaDoor
namespace Go.Proofs.YtojmnlbdhpledaaDoor
open Go.RowKit

/-- an entry, plainly. -/
structure Ent where
  kind : Int
  client : Int
  seq : Int
  data : List Nat
  members : List Int
  to' : Int
/-- what entry answers, and does. -/
def rentry (bs : List Nat) (s : Nat × Nat) : Ent × (Nat × Nat) :=
  let a := rrule bs 0 s
  let b := rtake bs.length 8 a.2
  let c := rtake bs.length 8 b
  let d := rtext bs c
  let m := rlist bs 5 d.2
  let t := rrule bs 1 m.2
  (⟨a.1, rint bs a.2, rint bs b, d.1, m.1, t.1⟩, t.2)
/-- the cells of an entry. -/
def Ent.cells (x : Ent) (v : Value) : Array Value := #[.int .i64 x.kind, .int .i64 x.client, .int .i64 x.seq, .string (str x.data), v, .int .i64 x.to']

theorem row_slice {w : World} {base : Nat} {e : TypeId} {z : Nat} {v : Value} {m : Nat} {vs : List Value} (h : w.ownsRow base e z v m vs) : ∃ ao cap, v = .slice ao m cap := by
  rcases h.2 with ⟨e1, h0⟩ | ⟨g, cap', cur, e1, _⟩
  · subst e1; exact ⟨none, 0, by simp_all⟩
  · exact ⟨_, _, e1⟩
theorem own_wide {w : World} {b b' : Nat} {e : TypeId} {z : Nat} {v : Value} {m : Nat} {vs : List Value} (h : w.ownsRow b e z v m vs) (hb : b' ≤ b) : w.ownsRow b' e z v m vs := by
  refine ⟨h.1, ?_⟩
  rcases h.2 with h | ⟨g, cap', cur, e1, h1, h2⟩
  · exact Or.inl h
  · exact Or.inr ⟨g, cap', cur, e1, Nat.le_trans hb h1, h2⟩
/-- one cell of a block of the call's own is set. -/
theorem set_one {base b : Nat} {ts : List TypeId} {a w : World} {cs : Array Value} {t : TypeId} {fr : Nat × Nat} (h : Only base ts a w ∧ w.heap[b]? = some (.cells cs t fr)) (hb : base ≤ b) (ht : t ∈ ts) (i : Nat) (u : Value) :
    Only base ts a (w.setCell ⟨b, i, none⟩ u) ∧ (w.setCell ⟨b, i, none⟩ u).heap[b]? = some (.cells (cs.setIfInBounds i u) t fr) :=
  ⟨h.1.setCell (p := ⟨b, i, none⟩) hb u h.2 ht, setCell_block h.2⟩
theorem Rg.start {base : Nat} {w : World} {p : Nat} {ao : Option Addr} {n cap : Nat} {bs : List Nat} {s : Nat × Nat} (h : Re base w p ao n cap s.1 s.2) (hs : Src base w ao n cap bs) (hbase : base ≤ w.heap.size) : Rg base w w p ao n cap bs s := ⟨h, hs, hbase, Only.refl _ _ _⟩
theorem Rg.alloc {base : Nat} {w0 w : World} {p : Nat} {ao : Option Addr} {n cap : Nat} {bs : List Nat} {s : Nat × Nat} (h : Rg base w0 w p ao n cap bs s) (o : Obj) : Rg base w0 (w.alloc o) p ao n cap bs s :=
  h.next (h.1.below ((Below.refl _ w).alloc (Nat.le_refl _) o)) (Only.of_below ((Below.refl _ w).alloc (Nat.le_refl _) o) h.2.2.1)

set_option maxRecDepth 20000 in
set_option maxHeartbeats 2000000 in
theorem rg_entry {base : Nat} {wz w : World} {p : Nat} {ao : Option Addr} {n cap : Nat} {bs : List Nat} {s : Nat × Nat} (h : Rg base wz w p ao n cap bs s) :
    Calls Tryd.prog 37 #[.pointer (some ⟨p, 0, none⟩)] w fun e w' => ∃ v, e = .returned (.agg ((rentry bs s).1.cells v)) ∧ w'.ownsRow w.heap.size 3 1 v (rentry bs s).1.members.length (i64s (rentry bs s).1.members) ∧ Rg base wz w' p ao n cap bs (rentry bs s).2 ∧ Only base [113] w w' := by
  have E1 : Hid (rentry bs s = (⟨(rrule bs 0 s).1, rint bs (rrule bs 0 s).2, rint bs (rtake n 8 (rrule bs 0 s).2), (rtext bs (rtake n 8 (rtake n 8 (rrule bs 0 s).2))).1, (rlist bs 5 (rtext bs (rtake n 8 (rtake n 8 (rrule bs 0 s).2))).2).1, (rrule bs 1 (rlist bs 5 (rtext bs (rtake n 8 (rtake n 8 (rrule bs 0 s).2))).2).2).1⟩, (rrule bs 1 (rlist bs 5 (rtext bs (rtake n 8 (rtake n 8 (rrule bs 0 s).2))).2).2).2)) := by show _ = _; unfold rentry; rw [h.2.1.len]
  obtain ⟨g0, hg0⟩ : ∃ g0 : World, g0 = w.alloc (.cells #[.int .i64 0, .int .i64 0, .int .i64 0, .string ⟨#[]⟩, .slice none 0 0, .int .i64 0] 24) := ⟨_, rfl⟩
  have hbase := h.2.2.1
  have H0 := hide h
  have HG : Hid (Rg base w g0 p ao n cap bs s) := by subst hg0; exact (Rg.start h.1 h.2.1 h.2.2.1).alloc _
  have hb0 : g0.heap[w.heap.size]? = some (.cells #[.int .i64 0, .int .i64 0, .int .i64 0, .string ⟨#[]⟩, .slice none 0 0, .int .i64 0] 24 (0, 0)) := by subst hg0; exact heap_alloc_new _ _
  have HB := hide hb0
  have HE := hide hg0
  have z0 : w.heap.size ≤ g0.heap.size := by subst hg0; simp
  clear h hb0 hg0
  go_enter Tryd.func37, Tryd.ntmps37
  go_wp2_with fail
  rw [← unhide HE]
  clear HE
  refine (rg_rule 0 (by decide) (unhide HG)).mono ?_
  rintro e w1 ⟨rfl, r1, k1⟩
  have R1 := hide r1
  have HB1 := hide (k1.block (unhide HB) (by decide))
  have z1 : w.heap.size ≤ w1.heap.size := Nat.le_trans z0 k1.size
  clear r1 k1 HG HB
  generalize rrule bs 0 s = a at *
  obtain ⟨a, sa⟩ := a
  go_wp2_with fail
  refine (rg_int (unhide R1)).mono ?_
  rintro e w2 ⟨rfl, r2, k2⟩
  have R2 := hide r2
  have HB2 := hide (k2.block (unhide HB1) (by decide))
  have z2 : w.heap.size ≤ w2.heap.size := Nat.le_trans z1 k2.size
  clear r2 k2 R1 HB1
  generalize rtake n 8 (a, sa).2 = sb at *
  generalize rint bs (a, sa).2 = b at *
  go_wp2_with fail
  refine (rg_int (unhide R2)).mono ?_
  rintro e w3 ⟨rfl, r3, k3⟩
  have R3 := hide r3
  have HB3 := hide (k3.block (unhide HB2) (by decide))
  have z3 : w.heap.size ≤ w3.heap.size := Nat.le_trans z2 k3.size
  clear r3 k3 R2 HB2
  generalize rtake n 8 sb = sc at *
  generalize rint bs sb = c at *
  go_wp2_with fail
  refine (rg_text (unhide R3)).mono ?_
  rintro e w4 ⟨rfl, r4, k4⟩
  have R4 := hide r4
  have HB4 := hide (k4.block (unhide HB3) (by decide))
  have z4 : w.heap.size ≤ w4.heap.size := Nat.le_trans z3 k4.size
  clear r4 k4 R3 HB3
  generalize rtext bs sc = d at *
  obtain ⟨d, sd⟩ := d
  go_wp2_with fail
  refine (rg_list 5 (by decide) (unhide R4)).mono ?_
  rintro e w5 ⟨v, rfl, o5, r5, k5⟩
  obtain ⟨aov, capv, rfl⟩ := row_slice o5
  have O5 := hide o5
  have R5 := hide r5
  have HB5 := hide (k5.block (unhide HB4) (by decide))
  have z5 : w.heap.size ≤ w5.heap.size := Nat.le_trans z4 k5.size
  clear o5 r5 k5 R4 HB4
  generalize rlist bs 5 (d, sd).2 = m at *
  obtain ⟨m, sm⟩ := m
  obtain ⟨nm, hnm⟩ : ∃ nm, m.length = nm := ⟨_, rfl⟩
  rw [show (m, sm).1.length = nm from hnm] at O5 ⊢
  have HNM := hide hnm
  clear hnm
  go_wp2_with fail
  refine (rg_rule 1 (by decide) (unhide R5)).mono ?_
  rintro e w6 ⟨rfl, r6, k6⟩
  have R6 := hide r6
  have hb6 := k6.block (unhide HB5) (by decide)
  have O6 := hide (own_only (unhide O5) k6 (by decide))
  have z6 : w.heap.size ≤ w6.heap.size := Nat.le_trans z5 k6.size
  clear r6 k6 R5 HB5 O5
  generalize rrule bs 1 (m, sm).2 = t at *
  obtain ⟨t, st⟩ := t
  have c0 : w6.cell? ⟨w.heap.size, 0, none⟩ = some (.int .i64 0) := (cell_of_block hb6).trans rfl
  have c1 : w6.cell? ⟨w.heap.size, 1, none⟩ = some (.int .i64 0) := (cell_of_block hb6).trans rfl
  have c2 : w6.cell? ⟨w.heap.size, 2, none⟩ = some (.int .i64 0) := (cell_of_block hb6).trans rfl
  have c3 : w6.cell? ⟨w.heap.size, 3, none⟩ = some (.string ⟨#[]⟩) := (cell_of_block hb6).trans rfl
  have c4 : w6.cell? ⟨w.heap.size, 4, none⟩ = some (.slice none 0 0) := (cell_of_block hb6).trans rfl
  have c5 : w6.cell? ⟨w.heap.size, 5, none⟩ = some (.int .i64 0) := (cell_of_block hb6).trans rfl
  have f6 : ∀ i, w6.frozen? ⟨w.heap.size, i, none⟩ = false := fun i => free_of_block hb6
  have HB6 := hide hb6
  clear hb6
  go_wp2
  obtain ⟨w7, h7⟩ : ∃ w7 : World, w7 = ((((((w6.setCell ⟨w.heap.size, 0, none⟩ (.int .i64 (a : Int))).setCell ⟨w.heap.size, 1, none⟩ (.int .i64 b)).setCell ⟨w.heap.size, 2, none⟩ (.int .i64 c)).setCell ⟨w.heap.size, 3, none⟩ (.string (str d))).setCell ⟨w.heap.size, 4, none⟩ (.slice aov nm capv)).setCell ⟨w.heap.size, 5, none⟩ (.int .i64 (t : Int))) := ⟨_, rfl⟩
  rw [← h7]
  have q7 : Only w.heap.size [24] w6 w7 ∧ w7.heap[w.heap.size]? = some (.cells #[.int .i64 (a : Int), .int .i64 b, .int .i64 c, .string (str d), .slice aov nm capv, .int .i64 (t : Int)] 24 (0, 0)) := by
    rw [h7]
    exact set_one (set_one (set_one (set_one (set_one (set_one ⟨Only.refl _ _ _, unhide HB6⟩ (Nat.le_refl _) (by simp) 0 _) (Nat.le_refl _) (by simp) 1 _) (Nat.le_refl _) (by simp) 2 _) (Nat.le_refl _) (by simp) 3 _) (Nat.le_refl _) (by simp) 4 _) (Nat.le_refl _) (by simp) 5 _
  clear h7 c0 c1 c2 c3 c4 c5 f6 HB6
  have c0 : w7.cell? ⟨w.heap.size, 0, none⟩ = some (.int .i64 (a : Int)) := (cell_of_block q7.2).trans rfl
  have c1 : w7.cell? ⟨w.heap.size, 1, none⟩ = some (.int .i64 b) := (cell_of_block q7.2).trans rfl
  have c2 : w7.cell? ⟨w.heap.size, 2, none⟩ = some (.int .i64 c) := (cell_of_block q7.2).trans rfl
  have c3 : w7.cell? ⟨w.heap.size, 3, none⟩ = some (.string (str d)) := (cell_of_block q7.2).trans rfl
  have c4 : w7.cell? ⟨w.heap.size, 4, none⟩ = some (.slice aov nm capv) := (cell_of_block q7.2).trans rfl
  have c5 : w7.cell? ⟨w.heap.size, 5, none⟩ = some (.int .i64 (t : Int)) := (cell_of_block q7.2).trans rfl
  have r7 := (unhide R6).1.own q7.1 (by decide) (by decide)
  have k7 := (unhide R6).2.2.2.fresh q7.1.below hbase
  refine bodyPost_ret (v := .agg #[.int .i64 (a : Int), .int .i64 b, .int .i64 c, .string (str d), .slice aov nm capv, .int .i64 (t : Int)]) (by simp [results, Tryd.results37, go_sem, c0, c1, c2, c3, c4, c5]) rfl ?_
  rw [unhide E1]
  refine ⟨.slice aov nm capv, rfl, ?_, (unhide H0).next r7 k7, k7⟩
  simp only [unhide HNM]
  exact own_wide (own_only (unhide O6) q7.1 (by decide)) z4
end Go.Proofs.YtojmnlbdhpledaaDoor
namespace Go.Proofs.YtojmnlbdhpledaaDoor
open Go.RowKit

/-- what config answers, and does. -/
def rconfig (bs : List Nat) (s : Nat × Nat) : (List Int × List Int) × (Nat × Nat) :=
  (((rlist bs 5 s).1, (rlist bs 5 (rlist bs 5 s).2).1), (rlist bs 5 (rlist bs 5 s).2).2)

set_option maxRecDepth 20000 in
set_option maxHeartbeats 2000000 in
theorem rg_config {base : Nat} {wz w : World} {p : Nat} {ao : Option Addr} {n cap : Nat} {bs : List Nat} {s : Nat × Nat} (h : Rg base wz w p ao n cap bs s) :
    Calls Tryd.prog 56 #[.pointer (some ⟨p, 0, none⟩)] w fun e w' => ∃ ao1 cap1 ao2 cap2, e = .returned (.agg #[.slice ao1 (rconfig bs s).1.1.length cap1, .slice ao2 (rconfig bs s).1.2.length cap2]) ∧ w'.ownsRow w.heap.size 3 1 (.slice ao1 (rconfig bs s).1.1.length cap1) (rconfig bs s).1.1.length (i64s (rconfig bs s).1.1) ∧ w'.ownsRow w.heap.size 3 1 (.slice ao2 (rconfig bs s).1.2.length cap2) (rconfig bs s).1.2.length (i64s (rconfig bs s).1.2) ∧ Rg base wz w' p ao n cap bs (rconfig bs s).2 ∧ Only base [113] w w' := by
  have E1 : Hid (rconfig bs s = (((rlist bs 5 s).1, (rlist bs 5 (rlist bs 5 s).2).1), (rlist bs 5 (rlist bs 5 s).2).2)) := by show _ = _; rfl
  obtain ⟨g0, hg0⟩ : ∃ g0 : World, g0 = w.alloc (.cells #[.slice none 0 0, .slice none 0 0] 39) := ⟨_, rfl⟩
  have hbase := h.2.2.1
  have H0 := hide h
  have HG : Hid (Rg base w g0 p ao n cap bs s) := by subst hg0; exact (Rg.start h.1 h.2.1 h.2.2.1).alloc _
  have HB : Hid (g0.heap[w.heap.size]? = some (.cells #[.slice none 0 0, .slice none 0 0] 39 (0, 0))) := by subst hg0; exact heap_alloc_new _ _
  have HE := hide hg0
  have z0 : w.heap.size ≤ g0.heap.size := by subst hg0; simp
  clear h hg0
  go_enter Tryd.func56, Tryd.ntmps56
  go_wp2_with fail
  rw [← unhide HE]
  clear HE
  refine (rg_list 5 (by decide) (unhide HG)).mono ?_
  rintro e w1 ⟨v, rfl, o1, r1, k1⟩
  obtain ⟨ao1, cap1, rfl⟩ := row_slice o1
  have O1 := hide o1
  have R1 := hide r1
  have HB1 := hide (k1.block (unhide HB) (by decide))
  have z1 : w.heap.size ≤ w1.heap.size := Nat.le_trans z0 k1.size
  clear o1 r1 k1 HG HB
  generalize rlist bs 5 s = m at *
  obtain ⟨m, sm⟩ := m
  obtain ⟨nm, hnm⟩ : ∃ nm, m.length = nm := ⟨_, rfl⟩
  rw [show (m, sm).1.length = nm from hnm] at O1 ⊢
  have HNM := hide hnm
  clear hnm
  go_wp2_with fail
  refine (rg_list 5 (by decide) (unhide R1)).mono ?_
  rintro e w2 ⟨v, rfl, o2, r2, k2⟩
  obtain ⟨ao2, cap2, rfl⟩ := row_slice o2
  have O2 := hide o2
  have O1' := hide (own_only (unhide O1) k2 (by decide))
  have R2 := hide r2
  have hb2 := k2.block (unhide HB1) (by decide)
  have z2 : w.heap.size ≤ w2.heap.size := Nat.le_trans z1 k2.size
  clear o2 r2 k2 R1 HB1 O1
  generalize rlist bs 5 (m, sm).2 = t at *
  obtain ⟨t, st⟩ := t
  obtain ⟨nt, hnt⟩ : ∃ nt, t.length = nt := ⟨_, rfl⟩
  rw [show (t, st).1.length = nt from hnt] at O2 ⊢
  have HNT := hide hnt
  clear hnt
  have c0 : w2.cell? ⟨w.heap.size, 0, none⟩ = some (.slice none 0 0) := (cell_of_block hb2).trans rfl
  have c1 : w2.cell? ⟨w.heap.size, 1, none⟩ = some (.slice none 0 0) := (cell_of_block hb2).trans rfl
  have f2 : ∀ i, w2.frozen? ⟨w.heap.size, i, none⟩ = false := fun i => free_of_block hb2
  have HB2 := hide hb2
  clear hb2
  go_wp2
  obtain ⟨w7, h7⟩ : ∃ w7 : World, w7 = ((w2.setCell ⟨w.heap.size, 0, none⟩ (.slice ao1 nm cap1)).setCell ⟨w.heap.size, 1, none⟩ (.slice ao2 nt cap2)) := ⟨_, rfl⟩
  rw [← h7]
  have q7 : Only w.heap.size [39] w2 w7 ∧ w7.heap[w.heap.size]? = some (.cells #[.slice ao1 nm cap1, .slice ao2 nt cap2] 39 (0, 0)) := by
    rw [h7]
    exact set_one (set_one ⟨Only.refl _ _ _, unhide HB2⟩ (Nat.le_refl _) (by simp) 0 _) (Nat.le_refl _) (by simp) 1 _
  clear h7 c0 c1 f2 HB2
  have c0 : w7.cell? ⟨w.heap.size, 0, none⟩ = some (.slice ao1 nm cap1) := (cell_of_block q7.2).trans rfl
  have c1 : w7.cell? ⟨w.heap.size, 1, none⟩ = some (.slice ao2 nt cap2) := (cell_of_block q7.2).trans rfl
  have r7 := (unhide R2).1.own q7.1 (by decide) (by decide)
  have k7 := (unhide R2).2.2.2.fresh q7.1.below hbase
  refine bodyPost_ret (v := .agg #[.slice ao1 nm cap1, .slice ao2 nt cap2]) (by simp [results, Tryd.results56, go_sem, c0, c1]) rfl ?_
  rw [unhide E1]
  simp only [unhide HNM, unhide HNT]
  exact ⟨ao1, cap1, ao2, cap2, rfl, own_wide (own_only (unhide O1') q7.1 (by decide)) z0, own_wide (own_only (unhide O2) q7.1 (by decide)) z1, (unhide H0).next r7 k7, k7⟩

/-- what entries' loop makes in k rounds. -/
def rentriesN (bs : List Nat) : Nat → (Nat × Nat) → List Ent × (Nat × Nat)
  | 0, s => ([], s)
  | k + 1, s => ((rentriesN bs k s).1 ++ [(rentry bs (rentriesN bs k s).2).1], (rentry bs (rentriesN bs k s).2).2)
theorem rentriesN_len (bs : List Nat) (k : Nat) (s : Nat × Nat) : (rentriesN bs k s).1.length = k := by
  induction k with
  | zero => rfl
  | succ k ih => simp [rentriesN, ih]
/-- what entries answers, and does. -/
def rentries (bs : List Nat) (s : Nat × Nat) : List Ent × (Nat × Nat) := rentriesN bs (rrule bs 6 s).1 (rrule bs 6 s).2
/-- the lists of entries, each a row of the call's own. -/
def Mems (base : Nat) (w : World) (xs : List Ent) (vs : List Value) : Prop := xs.length = vs.length ∧ ∀ (i : Nat) (x : Ent) (v : Value), xs[i]? = some x → vs[i]? = some v → w.ownsRow base 3 1 v x.members.length (i64s x.members)
def ecells (xs : List Ent) (vs : List Value) : List Value := (List.zipWith (fun x v => (Ent.cells x v).toList) xs vs).flatten
theorem Mems.nil (base : Nat) (w : World) : Mems base w [] [] := ⟨rfl, fun i x v hx _ => by simp at hx⟩
theorem Mems.only {base b : Nat} {ts : List TypeId} {w w' : World} {xs : List Ent} {vs : List Value} (h : Mems base w xs vs) (hk : Only b ts w w') (ht : 3 ∉ ts) : Mems base w' xs vs :=
  ⟨h.1, fun i x v hx hv => own_only (h.2 i x v hx hv) hk ht⟩
theorem Mems.wide {base b : Nat} {w : World} {xs : List Ent} {vs : List Value} (h : Mems base w xs vs) (hb : b ≤ base) : Mems b w xs vs :=
  ⟨h.1, fun i x v hx hv => own_wide (h.2 i x v hx hv) hb⟩
theorem Mems.snoc {base : Nat} {w : World} {xs : List Ent} {vs : List Value} {x : Ent} {v : Value} (h : Mems base w xs vs) (ho : w.ownsRow base 3 1 v x.members.length (i64s x.members)) : Mems base w (xs ++ [x]) (vs ++ [v]) := by
  refine ⟨by simp [h.1], fun i y u hy hu => ?_⟩
  by_cases hi : i < xs.length
  · rw [List.getElem?_append_left hi] at hy
    rw [List.getElem?_append_left (by rw [← h.1]; exact hi)] at hu
    exact h.2 i y u hy hu
  · rw [List.getElem?_append_right (by omega)] at hy
    rw [List.getElem?_append_right (by rw [← h.1]; omega)] at hu
    have h0 : i - xs.length = 0 := by
      rcases Nat.eq_zero_or_pos (i - xs.length) with h | h
      · exact h
      · rw [List.getElem?_eq_none (by simp; omega)] at hy; cases hy
    rw [h0] at hy
    rw [← h.1, h0] at hu
    simp only [List.getElem?_cons_zero, Option.some.injEq] at hy hu
    subst hy; subst hu
    exact ho
theorem ecells_snoc {xs : List Ent} {vs : List Value} (h : xs.length = vs.length) (x : Ent) (v : Value) : ecells (xs ++ [x]) (vs ++ [v]) = ecells xs vs ++ (x.cells v).toList := by
  unfold ecells
  rw [List.zipWith_append h]; simp
theorem ent_one (x : Ent) (ao : Option Addr) (n cap : Nat) : ∀ u ∈ (x.cells (.slice ao n cap)).toList, u.oneCell' = true := by
  intro u hu
  simp only [Ent.cells, List.mem_cons, List.not_mem_nil, or_false] at hu
  rcases hu with rfl | rfl | rfl | rfl | rfl | rfl <;> rfl
theorem Tryd.info_entry : (Tryd.prog.info? 24).map (fun i => (i.zero, i.size, i.bytes)) = some (some (.agg #[.int .i64 0, .int .i64 0, .int .i64 0, .string ⟨#[]⟩, .slice none 0 0, .int .i64 0]), 6, 72) := by kernel_rfl

set_option maxRecDepth 20000 in
set_option maxHeartbeats 2000000 in
theorem rg_entries {base : Nat} {wz w : World} {p : Nat} {ao : Option Addr} {n cap : Nat} {bs : List Nat} {s : Nat × Nat} (h : Rg base wz w p ao n cap bs s) :
    Calls Tryd.prog 69 #[.pointer (some ⟨p, 0, none⟩)] w fun e w' => ∃ v vs, e = .returned v ∧ w'.ownsRow w.heap.size 24 6 v (rentries bs s).1.length (ecells (rentries bs s).1 vs) ∧ Mems w.heap.size w' (rentries bs s).1 vs ∧ Rg base wz w' p ao n cap bs (rentries bs s).2 ∧ Only base [113] w w' := by
  have U := hide (rg_rule 6 (by decide) (Rg.start h.1 h.2.1 h.2.2.1))
  have hbase := h.2.2.1
  have hk := rrule_le bs 6 s
  have E1 : Hid (rentries bs s = rentriesN bs (rrule bs 6 s).1 (rrule bs 6 s).2) := by show _ = _; rfl
  have H0 := hide h
  clear h
  generalize rrule bs 6 s = r at *
  obtain ⟨k, t⟩ := r
  obtain ⟨i0, hi, hz0, hz1, hz2⟩ := info_parts Tryd.info_entry
  go_enter Tryd.func69, Tryd.ntmps69
  go_wp2_with fail
  refine (unhide U).mono ?_
  rintro e w1 ⟨rfl, r1, k1⟩
  have R1 := hide r1
  have s1 : w.heap.size ≤ w1.heap.size := k1.size
  clear U r1 k1
  go_wp2_with fail
  go_loopg [3, 6] k (fun g lv iv wr => ∃ (j : Nat) (vs : List Value), j + g = k ∧ iv = .int .i64 (j : Int) ∧ wr.ownsRow w.heap.size 24 6 lv j (ecells (rentriesN bs j t).1 vs) ∧ Mems w.heap.size wr (rentriesN bs j t).1 vs ∧ Rg base w wr p ao n cap bs (rentriesN bs j t).2)
  case atStart => exact ⟨0, [], by omega, rfl, World.ownsRow_nil _ _ _ _, Mems.nil _ _, unhide R1⟩
  case round =>
    obtain ⟨j, vs, hj, rfl, ho, hm, hr⟩ := hrel
    have HJ := hide hj
    have HO := hide ho
    have HM := hide hm
    have HR := hide hr
    have sr : w.heap.size ≤ wr.heap.size := hr.2.2.2.size
    have hjk : j ≤ k := by omega
    clear hj ho hm hr
    by_cases hlt : j < k
    · have I := hide (rg_entry (unhide HR))
      have ER : Hid (rentriesN bs (j + 1) t = ((rentriesN bs j t).1 ++ [(rentry bs (rentriesN bs j t).2).1], (rentry bs (rentriesN bs j t).2).2)) := by show _ = _; rfl
      generalize rentry bs (rentriesN bs j t).2 = r at *
      generalize (rentriesN bs j t).1 = xs at *
      obtain ⟨x, u⟩ := r
      go_wp2_with fail
      refine (unhide I).mono ?_
      rintro e w2 ⟨v2, rfl, o2, r2, k2⟩
      obtain ⟨ao2, cap2, rfl⟩ := row_slice o2
      have O2 := hide (own_only (unhide HO) k2 (by decide))
      have M2 := hide (((unhide HM).only k2 (by decide)).snoc (own_wide o2 sr))
      have R2 := hide r2
      have s2 : w.heap.size ≤ w2.heap.size := Nat.le_trans sr k2.size
      have EC := hide (ecells_snoc (unhide HM).1 x (.slice ao2 x.members.length cap2))
      have ON := hide (ent_one x ao2 x.members.length cap2)
      simp only [Ent.cells] at ON EC
      show _
      clear I r2 k2 o2 HO HM HR
      simp only [Ent.cells]
      generalize x.members.length = nx at *
      go_wp2_with (at_builtin; refine wpList_append_own _ rfl (.tmp 8) (.tmp 11) 37 rfl w.heap.size 24 i0 _ 6 72 Tryd.underlying37 hi hz0 hz1 hz2 rfl (by decide) _ _ _ rfl ((unhide O2).alloc _) ⟨w2.heap.size, 0, none⟩ 1 1 _ rfl rfl news_at (unhide ON) (by unfold maxLen; omega) (by omega) (by simp; omega) ?_)
      intro v3 w3 own3 grow3 _
      have p3 := (Only.refl w.heap.size [24] w2).alloc s2 (.cells #[.int .i64 x.kind, .int .i64 x.client, .int .i64 x.seq, .string (str x.data), .slice ao2 nx cap2, .int .i64 x.to'] 24)
      have p4 := p3.own ((unhide O2).alloc _) grow3 (by simp; omega) (Nat.le_refl _) (by simp)
      have k4 := (unhide R2).2.2.2.fresh p4.below hbase
      have R3 : Hid (Rg base w w3 p ao n cap bs u) := ⟨(unhide R2).1.own p4 (by decide) (by decide), (unhide H0).2.1.only k4, Nat.le_trans hbase k4.size, k4⟩
      have O3 := hide own3
      have M3 := hide ((unhide M2).only p4 (by decide))
      clear own3 grow3 p3 p4 k4 R2 O2 M2
      go_wp2
      go_roundg (k - (j + 1))
      case measure => have := unhide HJ; omega
      case rel =>
        refine ⟨j + 1, _, by omega, by go_num, ?_, by rw [unhide ER]; exact unhide M3, by rw [unhide ER]; exact unhide R3⟩
        rw [unhide ER, unhide EC]
        exact unhide O3
    · have ej : j = k := by omega
      subst ej
      go_wp2
      go_ret
      have hr := unhide HR
      refine ⟨_, vs, rfl, ?_, ?_, ?_, hr.2.2.2⟩
      · rw [unhide E1]; simp only [rentriesN_len]; exact unhide HO
      · rw [unhide E1]; exact unhide HM
      · rw [unhide E1]; exact (unhide H0).next hr.1 hr.2.2.2
end Go.Proofs.YtojmnlbdhpledaaDoor
namespace Go.Proofs.YtojmnlbdhpledaaDoor
open Go.RowKit

/-- a message, plainly. -/
structure Mes where
  src : Int
  to' : Int
  gen : Int
  kind : Int
  term : Int
  index : Int
  last : Int
  commit : Int
  yes : Bool
  terms : List Int
  ents : List Ent
  cold : List Int
  cnew : List Int
/-- what msg answers, and does. -/
def rmsg (bs : List Nat) (s : Nat × Nat) : Mes × (Nat × Nat) :=
  let a1 := rtake bs.length 8 s
  let a2 := rtake bs.length 8 a1
  let a3 := rtake bs.length 8 a2
  let k := rrule bs 2 a3
  let a5 := rtake bs.length 8 k.2
  let a6 := rtake bs.length 8 a5
  let a7 := rtake bs.length 8 a6
  let a8 := rtake bs.length 8 a7
  let y := rrule bs 3 a8
  let l := rlist bs 6 y.2
  let e := rentries bs l.2
  let c := rconfig bs e.2
  (⟨rint bs s, rint bs a1, rint bs a2, k.1, rint bs k.2, rint bs a5, rint bs a6, rint bs a7, ((y.1 : Nat) : Int) == 1, l.1, e.1, c.1.1, c.1.2⟩, c.2)
/-- the cells of a message. -/
def Mes.cells (x : Mes) (v e o n : Value) : Array Value := #[.int .i64 x.src, .int .i64 x.to', .int .i64 x.gen, .int .i64 x.kind, .int .i64 x.term, .int .i64 x.index, .int .i64 x.last, .int .i64 x.commit, .bool x.yes, v, e, o, n]
/-- the lists of a message. -/
def Mes.rows (base : Nat) (w : World) (x : Mes) (v e o n : Value) (vs : List Value) : Prop :=
  w.ownsRow base 3 1 v x.terms.length (i64s x.terms) ∧ w.ownsRow base 24 6 e x.ents.length (ecells x.ents vs) ∧ Mems base w x.ents vs ∧ w.ownsRow base 3 1 o x.cold.length (i64s x.cold) ∧ w.ownsRow base 3 1 n x.cnew.length (i64s x.cnew)

set_option maxRecDepth 20000 in
set_option maxHeartbeats 4000000 in
theorem rg_msg {base : Nat} {wz w : World} {p : Nat} {ao : Option Addr} {n cap : Nat} {bs : List Nat} {s : Nat × Nat} (h : Rg base wz w p ao n cap bs s) :
    Calls Tryd.prog 48 #[.pointer (some ⟨p, 0, none⟩)] w fun e w' => ∃ v1 v2 v3 v4 vs, e = .returned (.agg ((rmsg bs s).1.cells v1 v2 v3 v4)) ∧ (rmsg bs s).1.rows w.heap.size w' v1 v2 v3 v4 vs ∧ Rg base wz w' p ao n cap bs (rmsg bs s).2 ∧ Only base [113] w w' := by
  have E1 : Hid (rmsg bs s = (⟨rint bs (s), rint bs (rtake n 8 (s)), rint bs (rtake n 8 (rtake n 8 (s))), (rrule bs 2 (rtake n 8 (rtake n 8 (rtake n 8 (s))))).1, rint bs ((rrule bs 2 (rtake n 8 (rtake n 8 (rtake n 8 (s))))).2), rint bs (rtake n 8 ((rrule bs 2 (rtake n 8 (rtake n 8 (rtake n 8 (s))))).2)), rint bs (rtake n 8 (rtake n 8 ((rrule bs 2 (rtake n 8 (rtake n 8 (rtake n 8 (s))))).2))), rint bs (rtake n 8 (rtake n 8 (rtake n 8 ((rrule bs 2 (rtake n 8 (rtake n 8 (rtake n 8 (s))))).2)))), (((rrule bs 3 (rtake n 8 (rtake n 8 (rtake n 8 (rtake n 8 ((rrule bs 2 (rtake n 8 (rtake n 8 (rtake n 8 (s))))).2)))))).1 : Nat) : Int) == 1, (rlist bs 6 ((rrule bs 3 (rtake n 8 (rtake n 8 (rtake n 8 (rtake n 8 ((rrule bs 2 (rtake n 8 (rtake n 8 (rtake n 8 (s))))).2)))))).2)).1, (rentries bs ((rlist bs 6 ((rrule bs 3 (rtake n 8 (rtake n 8 (rtake n 8 (rtake n 8 ((rrule bs 2 (rtake n 8 (rtake n 8 (rtake n 8 (s))))).2)))))).2)).2)).1, (rconfig bs ((rentries bs ((rlist bs 6 ((rrule bs 3 (rtake n 8 (rtake n 8 (rtake n 8 (rtake n 8 ((rrule bs 2 (rtake n 8 (rtake n 8 (rtake n 8 (s))))).2)))))).2)).2)).2)).1.1, (rconfig bs ((rentries bs ((rlist bs 6 ((rrule bs 3 (rtake n 8 (rtake n 8 (rtake n 8 (rtake n 8 ((rrule bs 2 (rtake n 8 (rtake n 8 (rtake n 8 (s))))).2)))))).2)).2)).2)).1.2⟩, (rconfig bs ((rentries bs ((rlist bs 6 ((rrule bs 3 (rtake n 8 (rtake n 8 (rtake n 8 (rtake n 8 ((rrule bs 2 (rtake n 8 (rtake n 8 (rtake n 8 (s))))).2)))))).2)).2)).2)).2)) := by show _ = _; unfold rmsg; rw [h.2.1.len]
  obtain ⟨g0, hg0⟩ : ∃ g0 : World, g0 = w.alloc (.cells #[.int .i64 0, .int .i64 0, .int .i64 0, .int .i64 0, .int .i64 0, .int .i64 0, .int .i64 0, .int .i64 0, .bool false, .slice none 0 0, .slice none 0 0, .slice none 0 0, .slice none 0 0] 41) := ⟨_, rfl⟩
  have hbase := h.2.2.1
  have H0 := hide h
  have R0 : Hid (Rg base w g0 p ao n cap bs s) := by subst hg0; exact (Rg.start h.1 h.2.1 h.2.2.1).alloc _
  have HB0 : Hid (g0.heap[w.heap.size]? = some (.cells #[.int .i64 0, .int .i64 0, .int .i64 0, .int .i64 0, .int .i64 0, .int .i64 0, .int .i64 0, .int .i64 0, .bool false, .slice none 0 0, .slice none 0 0, .slice none 0 0, .slice none 0 0] 41 (0, 0))) := by subst hg0; exact heap_alloc_new _ _
  have HE := hide hg0
  have z0 : w.heap.size ≤ g0.heap.size := by subst hg0; simp
  clear h hg0
  go_enter Tryd.func48, Tryd.ntmps48
  go_wp2_with fail
  rw [← unhide HE]
  clear HE
  refine (rg_int (unhide R0)).mono ?_
  rintro e w1 ⟨rfl, r, k⟩
  have R1 := hide r
  have HB1 := hide (k.block (unhide HB0) (by decide))
  have z1 : w.heap.size ≤ w1.heap.size := Nat.le_trans z0 k.size
  clear r k R0 HB0
  generalize rtake n 8 s = s1 at *
  generalize rint bs s = f0 at *
  go_wp2_with fail
  refine (rg_int (unhide R1)).mono ?_
  rintro e w2 ⟨rfl, r, k⟩
  have R2 := hide r
  have HB2 := hide (k.block (unhide HB1) (by decide))
  have z2 : w.heap.size ≤ w2.heap.size := Nat.le_trans z1 k.size
  clear r k R1 HB1
  generalize rtake n 8 s1 = s2 at *
  generalize rint bs s1 = f1 at *
  go_wp2_with fail
  refine (rg_int (unhide R2)).mono ?_
  rintro e w3 ⟨rfl, r, k⟩
  have R3 := hide r
  have HB3 := hide (k.block (unhide HB2) (by decide))
  have z3 : w.heap.size ≤ w3.heap.size := Nat.le_trans z2 k.size
  clear r k R2 HB2
  generalize rtake n 8 s2 = s3 at *
  generalize rint bs s2 = f2 at *
  go_wp2_with fail
  refine (rg_rule 2 (by decide) (unhide R3)).mono ?_
  rintro e w4 ⟨rfl, r, k⟩
  have R4 := hide r
  have HB4 := hide (k.block (unhide HB3) (by decide))
  have z4 : w.heap.size ≤ w4.heap.size := Nat.le_trans z3 k.size
  clear r k R3 HB3
  generalize rrule bs 2 s3 = g3 at *
  obtain ⟨f3, s4⟩ := g3
  go_wp2_with fail
  refine (rg_int (unhide R4)).mono ?_
  rintro e w5 ⟨rfl, r, k⟩
  have R5 := hide r
  have HB5 := hide (k.block (unhide HB4) (by decide))
  have z5 : w.heap.size ≤ w5.heap.size := Nat.le_trans z4 k.size
  clear r k R4 HB4
  generalize rtake n 8 (f3, s4).2 = s5 at *
  generalize rint bs (f3, s4).2 = f4 at *
  go_wp2_with fail
  refine (rg_int (unhide R5)).mono ?_
  rintro e w6 ⟨rfl, r, k⟩
  have R6 := hide r
  have HB6 := hide (k.block (unhide HB5) (by decide))
  have z6 : w.heap.size ≤ w6.heap.size := Nat.le_trans z5 k.size
  clear r k R5 HB5
  generalize rtake n 8 s5 = s6 at *
  generalize rint bs s5 = f5 at *
  go_wp2_with fail
  refine (rg_int (unhide R6)).mono ?_
  rintro e w7 ⟨rfl, r, k⟩
  have R7 := hide r
  have HB7 := hide (k.block (unhide HB6) (by decide))
  have z7 : w.heap.size ≤ w7.heap.size := Nat.le_trans z6 k.size
  clear r k R6 HB6
  generalize rtake n 8 s6 = s7 at *
  generalize rint bs s6 = f6 at *
  go_wp2_with fail
  refine (rg_int (unhide R7)).mono ?_
  rintro e w8 ⟨rfl, r, k⟩
  have R8 := hide r
  have HB8 := hide (k.block (unhide HB7) (by decide))
  have z8 : w.heap.size ≤ w8.heap.size := Nat.le_trans z7 k.size
  clear r k R7 HB7
  generalize rtake n 8 s7 = s8 at *
  generalize rint bs s7 = f7 at *
  go_wp2_with fail
  refine (rg_rule 3 (by decide) (unhide R8)).mono ?_
  rintro e w9 ⟨rfl, r, k⟩
  have R9 := hide r
  have HB9 := hide (k.block (unhide HB8) (by decide))
  have z9 : w.heap.size ≤ w9.heap.size := Nat.le_trans z8 k.size
  clear r k R8 HB8
  generalize rrule bs 3 s8 = g8 at *
  obtain ⟨f8, s9⟩ := g8
  go_wp2_with fail
  refine (rg_list 6 (by decide) (unhide R9)).mono ?_
  rintro e w10 ⟨v, rfl, o, r, k⟩
  obtain ⟨aot, capt, rfl⟩ := row_slice o
  have OT10 := hide (own_wide o z9)
  have R10 := hide r
  have HB10 := hide (k.block (unhide HB9) (by decide))
  have z10 : w.heap.size ≤ w10.heap.size := Nat.le_trans z9 k.size
  clear r k R9 HB9 o
  generalize rlist bs 6 (f8, s9).2 = g9 at *
  obtain ⟨f9, s10⟩ := g9
  obtain ⟨nt, hnt⟩ : ∃ nt, f9.length = nt := ⟨_, rfl⟩
  rw [show (f9, s10).1.length = nt from hnt] at OT10 ⊢
  have HNT := hide hnt
  clear hnt
  go_wp2_with fail
  refine (rg_entries (unhide R10)).mono ?_
  rintro e w11 ⟨v, vs, rfl, o, om, r, k⟩
  obtain ⟨aoe, cape, rfl⟩ := row_slice o
  have OE11 := hide (own_wide o z10)
  have OM11 := hide (om.wide z10)
  have R11 := hide r
  have HB11 := hide (k.block (unhide HB10) (by decide))
  have z11 : w.heap.size ≤ w11.heap.size := Nat.le_trans z10 k.size
  have OT11 := hide (own_only (unhide OT10) k (by decide))
  clear r k R10 HB10 OT10 o om
  generalize rentries bs (f9, s10).2 = g10 at *
  obtain ⟨f10, s11⟩ := g10
  obtain ⟨ne, hne⟩ : ∃ ne, f10.length = ne := ⟨_, rfl⟩
  rw [show (f10, s11).1.length = ne from hne] at OE11 ⊢
  have HNE := hide hne
  clear hne
  go_wp2_with fail
  refine (rg_config (unhide R11)).mono ?_
  rintro e w12 ⟨ao3, cap3, ao4, cap4, rfl, oo, on, r, k⟩
  have OO12 := hide (own_wide oo z11)
  have ON12 := hide (own_wide on z11)
  have R12 := hide r
  have HB12 := hide (k.block (unhide HB11) (by decide))
  have z12 : w.heap.size ≤ w12.heap.size := Nat.le_trans z11 k.size
  have OT12 := hide (own_only (unhide OT11) k (by decide))
  have OE12 := hide (own_only (unhide OE11) k (by decide))
  have OM12 := hide ((unhide OM11).only k (by decide))
  clear r k R11 HB11 OT11 OE11 OM11 oo on
  generalize rconfig bs (f10, s11).2 = g11 at *
  obtain ⟨⟨fo, fn⟩, s12⟩ := g11
  obtain ⟨no, hno⟩ : ∃ no, fo.length = no := ⟨_, rfl⟩
  obtain ⟨nn, hnn⟩ : ∃ nn, fn.length = nn := ⟨_, rfl⟩
  rw [show ((fo, fn), s12).1.1.length = no from hno] at OO12 ⊢
  rw [show ((fo, fn), s12).1.2.length = nn from hnn] at ON12 ⊢
  have HNO := hide hno
  have HNN := hide hnn
  clear hno hnn
  have hb := unhide HB12
  have c0 : w12.cell? ⟨w.heap.size, 0, none⟩ = some (.int .i64 0) := (cell_of_block hb).trans rfl
  have c1 : w12.cell? ⟨w.heap.size, 1, none⟩ = some (.int .i64 0) := (cell_of_block hb).trans rfl
  have c2 : w12.cell? ⟨w.heap.size, 2, none⟩ = some (.int .i64 0) := (cell_of_block hb).trans rfl
  have c3 : w12.cell? ⟨w.heap.size, 3, none⟩ = some (.int .i64 0) := (cell_of_block hb).trans rfl
  have c4 : w12.cell? ⟨w.heap.size, 4, none⟩ = some (.int .i64 0) := (cell_of_block hb).trans rfl
  have c5 : w12.cell? ⟨w.heap.size, 5, none⟩ = some (.int .i64 0) := (cell_of_block hb).trans rfl
  have c6 : w12.cell? ⟨w.heap.size, 6, none⟩ = some (.int .i64 0) := (cell_of_block hb).trans rfl
  have c7 : w12.cell? ⟨w.heap.size, 7, none⟩ = some (.int .i64 0) := (cell_of_block hb).trans rfl
  have c8 : w12.cell? ⟨w.heap.size, 8, none⟩ = some (.bool false) := (cell_of_block hb).trans rfl
  have c9 : w12.cell? ⟨w.heap.size, 9, none⟩ = some (.slice none 0 0) := (cell_of_block hb).trans rfl
  have c10 : w12.cell? ⟨w.heap.size, 10, none⟩ = some (.slice none 0 0) := (cell_of_block hb).trans rfl
  have c11 : w12.cell? ⟨w.heap.size, 11, none⟩ = some (.slice none 0 0) := (cell_of_block hb).trans rfl
  have c12 : w12.cell? ⟨w.heap.size, 12, none⟩ = some (.slice none 0 0) := (cell_of_block hb).trans rfl
  have f : ∀ i, w12.frozen? ⟨w.heap.size, i, none⟩ = false := fun i => free_of_block hb
  clear hb
  go_wp2
  clear c0 c1 c2 c3 c4 c5 c6 c7 c8 c9 c10 c11 c12 f
  obtain ⟨x0, hx⟩ : ∃ x : World, x = w12.setCell ⟨w.heap.size, 0, none⟩ (.int .i64 f0) := ⟨_, rfl⟩
  rw [← hx]
  have q0 : Only w.heap.size [41] w12 x0 ∧ x0.heap[w.heap.size]? = some (.cells #[.int .i64 f0, .int .i64 0, .int .i64 0, .int .i64 0, .int .i64 0, .int .i64 0, .int .i64 0, .int .i64 0, .bool false, .slice none 0 0, .slice none 0 0, .slice none 0 0, .slice none 0 0] 41 (0, 0)) := by rw [hx]; exact set_one ⟨Only.refl _ _ _, unhide HB12⟩ (Nat.le_refl _) (by simp) 0 _
  clear hx
  obtain ⟨x1, hx⟩ : ∃ x : World, x = x0.setCell ⟨w.heap.size, 1, none⟩ (.int .i64 f1) := ⟨_, rfl⟩
  rw [← hx]
  have q1 : Only w.heap.size [41] w12 x1 ∧ x1.heap[w.heap.size]? = some (.cells #[.int .i64 f0, .int .i64 f1, .int .i64 0, .int .i64 0, .int .i64 0, .int .i64 0, .int .i64 0, .int .i64 0, .bool false, .slice none 0 0, .slice none 0 0, .slice none 0 0, .slice none 0 0] 41 (0, 0)) := by rw [hx]; exact set_one q0 (Nat.le_refl _) (by simp) 1 _
  clear hx q0
  obtain ⟨x2, hx⟩ : ∃ x : World, x = x1.setCell ⟨w.heap.size, 2, none⟩ (.int .i64 f2) := ⟨_, rfl⟩
  rw [← hx]
  have q2 : Only w.heap.size [41] w12 x2 ∧ x2.heap[w.heap.size]? = some (.cells #[.int .i64 f0, .int .i64 f1, .int .i64 f2, .int .i64 0, .int .i64 0, .int .i64 0, .int .i64 0, .int .i64 0, .bool false, .slice none 0 0, .slice none 0 0, .slice none 0 0, .slice none 0 0] 41 (0, 0)) := by rw [hx]; exact set_one q1 (Nat.le_refl _) (by simp) 2 _
  clear hx q1
  obtain ⟨x3, hx⟩ : ∃ x : World, x = x2.setCell ⟨w.heap.size, 3, none⟩ (.int .i64 (f3 : Int)) := ⟨_, rfl⟩
  rw [← hx]
  have q3 : Only w.heap.size [41] w12 x3 ∧ x3.heap[w.heap.size]? = some (.cells #[.int .i64 f0, .int .i64 f1, .int .i64 f2, .int .i64 (f3 : Int), .int .i64 0, .int .i64 0, .int .i64 0, .int .i64 0, .bool false, .slice none 0 0, .slice none 0 0, .slice none 0 0, .slice none 0 0] 41 (0, 0)) := by rw [hx]; exact set_one q2 (Nat.le_refl _) (by simp) 3 _
  clear hx q2
  obtain ⟨x4, hx⟩ : ∃ x : World, x = x3.setCell ⟨w.heap.size, 4, none⟩ (.int .i64 f4) := ⟨_, rfl⟩
  rw [← hx]
  have q4 : Only w.heap.size [41] w12 x4 ∧ x4.heap[w.heap.size]? = some (.cells #[.int .i64 f0, .int .i64 f1, .int .i64 f2, .int .i64 (f3 : Int), .int .i64 f4, .int .i64 0, .int .i64 0, .int .i64 0, .bool false, .slice none 0 0, .slice none 0 0, .slice none 0 0, .slice none 0 0] 41 (0, 0)) := by rw [hx]; exact set_one q3 (Nat.le_refl _) (by simp) 4 _
  clear hx q3
  obtain ⟨x5, hx⟩ : ∃ x : World, x = x4.setCell ⟨w.heap.size, 5, none⟩ (.int .i64 f5) := ⟨_, rfl⟩
  rw [← hx]
  have q5 : Only w.heap.size [41] w12 x5 ∧ x5.heap[w.heap.size]? = some (.cells #[.int .i64 f0, .int .i64 f1, .int .i64 f2, .int .i64 (f3 : Int), .int .i64 f4, .int .i64 f5, .int .i64 0, .int .i64 0, .bool false, .slice none 0 0, .slice none 0 0, .slice none 0 0, .slice none 0 0] 41 (0, 0)) := by rw [hx]; exact set_one q4 (Nat.le_refl _) (by simp) 5 _
  clear hx q4
  obtain ⟨x6, hx⟩ : ∃ x : World, x = x5.setCell ⟨w.heap.size, 6, none⟩ (.int .i64 f6) := ⟨_, rfl⟩
  rw [← hx]
  have q6 : Only w.heap.size [41] w12 x6 ∧ x6.heap[w.heap.size]? = some (.cells #[.int .i64 f0, .int .i64 f1, .int .i64 f2, .int .i64 (f3 : Int), .int .i64 f4, .int .i64 f5, .int .i64 f6, .int .i64 0, .bool false, .slice none 0 0, .slice none 0 0, .slice none 0 0, .slice none 0 0] 41 (0, 0)) := by rw [hx]; exact set_one q5 (Nat.le_refl _) (by simp) 6 _
  clear hx q5
  obtain ⟨x7, hx⟩ : ∃ x : World, x = x6.setCell ⟨w.heap.size, 7, none⟩ (.int .i64 f7) := ⟨_, rfl⟩
  rw [← hx]
  have qq7 : Only w.heap.size [41] w12 x7 ∧ x7.heap[w.heap.size]? = some (.cells #[.int .i64 f0, .int .i64 f1, .int .i64 f2, .int .i64 (f3 : Int), .int .i64 f4, .int .i64 f5, .int .i64 f6, .int .i64 f7, .bool false, .slice none 0 0, .slice none 0 0, .slice none 0 0, .slice none 0 0] 41 (0, 0)) := by rw [hx]; exact set_one q6 (Nat.le_refl _) (by simp) 7 _
  clear hx q6
  obtain ⟨x8, hx⟩ : ∃ x : World, x = x7.setCell ⟨w.heap.size, 8, none⟩ (.bool ((f8 : Int) == 1)) := ⟨_, rfl⟩
  rw [← hx]
  have q8 : Only w.heap.size [41] w12 x8 ∧ x8.heap[w.heap.size]? = some (.cells #[.int .i64 f0, .int .i64 f1, .int .i64 f2, .int .i64 (f3 : Int), .int .i64 f4, .int .i64 f5, .int .i64 f6, .int .i64 f7, .bool ((f8 : Int) == 1), .slice none 0 0, .slice none 0 0, .slice none 0 0, .slice none 0 0] 41 (0, 0)) := by rw [hx]; exact set_one qq7 (Nat.le_refl _) (by simp) 8 _
  clear hx qq7
  obtain ⟨x9, hx⟩ : ∃ x : World, x = x8.setCell ⟨w.heap.size, 9, none⟩ (.slice aot nt capt) := ⟨_, rfl⟩
  rw [← hx]
  have q9 : Only w.heap.size [41] w12 x9 ∧ x9.heap[w.heap.size]? = some (.cells #[.int .i64 f0, .int .i64 f1, .int .i64 f2, .int .i64 (f3 : Int), .int .i64 f4, .int .i64 f5, .int .i64 f6, .int .i64 f7, .bool ((f8 : Int) == 1), .slice aot nt capt, .slice none 0 0, .slice none 0 0, .slice none 0 0] 41 (0, 0)) := by rw [hx]; exact set_one q8 (Nat.le_refl _) (by simp) 9 _
  clear hx q8
  obtain ⟨x10, hx⟩ : ∃ x : World, x = x9.setCell ⟨w.heap.size, 10, none⟩ (.slice aoe ne cape) := ⟨_, rfl⟩
  rw [← hx]
  have q10 : Only w.heap.size [41] w12 x10 ∧ x10.heap[w.heap.size]? = some (.cells #[.int .i64 f0, .int .i64 f1, .int .i64 f2, .int .i64 (f3 : Int), .int .i64 f4, .int .i64 f5, .int .i64 f6, .int .i64 f7, .bool ((f8 : Int) == 1), .slice aot nt capt, .slice aoe ne cape, .slice none 0 0, .slice none 0 0] 41 (0, 0)) := by rw [hx]; exact set_one q9 (Nat.le_refl _) (by simp) 10 _
  clear hx q9
  obtain ⟨x11, hx⟩ : ∃ x : World, x = x10.setCell ⟨w.heap.size, 11, none⟩ (.slice ao3 no cap3) := ⟨_, rfl⟩
  rw [← hx]
  have q11 : Only w.heap.size [41] w12 x11 ∧ x11.heap[w.heap.size]? = some (.cells #[.int .i64 f0, .int .i64 f1, .int .i64 f2, .int .i64 (f3 : Int), .int .i64 f4, .int .i64 f5, .int .i64 f6, .int .i64 f7, .bool ((f8 : Int) == 1), .slice aot nt capt, .slice aoe ne cape, .slice ao3 no cap3, .slice none 0 0] 41 (0, 0)) := by rw [hx]; exact set_one q10 (Nat.le_refl _) (by simp) 11 _
  clear hx q10
  obtain ⟨wf, hx⟩ : ∃ x : World, x = x11.setCell ⟨w.heap.size, 12, none⟩ (.slice ao4 nn cap4) := ⟨_, rfl⟩
  rw [← hx]
  have q7 : Only w.heap.size [41] w12 wf ∧ wf.heap[w.heap.size]? = some (.cells #[.int .i64 f0, .int .i64 f1, .int .i64 f2, .int .i64 (f3 : Int), .int .i64 f4, .int .i64 f5, .int .i64 f6, .int .i64 f7, .bool ((f8 : Int) == 1), .slice aot nt capt, .slice aoe ne cape, .slice ao3 no cap3, .slice ao4 nn cap4] 41 (0, 0)) := by rw [hx]; exact set_one q11 (Nat.le_refl _) (by simp) 12 _
  clear hx q11
  clear HB12
  have c0 : wf.cell? ⟨w.heap.size, 0, none⟩ = some (.int .i64 f0) := (cell_of_block q7.2).trans rfl
  have c1 : wf.cell? ⟨w.heap.size, 1, none⟩ = some (.int .i64 f1) := (cell_of_block q7.2).trans rfl
  have c2 : wf.cell? ⟨w.heap.size, 2, none⟩ = some (.int .i64 f2) := (cell_of_block q7.2).trans rfl
  have c3 : wf.cell? ⟨w.heap.size, 3, none⟩ = some (.int .i64 (f3 : Int)) := (cell_of_block q7.2).trans rfl
  have c4 : wf.cell? ⟨w.heap.size, 4, none⟩ = some (.int .i64 f4) := (cell_of_block q7.2).trans rfl
  have c5 : wf.cell? ⟨w.heap.size, 5, none⟩ = some (.int .i64 f5) := (cell_of_block q7.2).trans rfl
  have c6 : wf.cell? ⟨w.heap.size, 6, none⟩ = some (.int .i64 f6) := (cell_of_block q7.2).trans rfl
  have c7 : wf.cell? ⟨w.heap.size, 7, none⟩ = some (.int .i64 f7) := (cell_of_block q7.2).trans rfl
  have c8 : wf.cell? ⟨w.heap.size, 8, none⟩ = some (.bool ((f8 : Int) == 1)) := (cell_of_block q7.2).trans rfl
  have c9 : wf.cell? ⟨w.heap.size, 9, none⟩ = some (.slice aot nt capt) := (cell_of_block q7.2).trans rfl
  have c10 : wf.cell? ⟨w.heap.size, 10, none⟩ = some (.slice aoe ne cape) := (cell_of_block q7.2).trans rfl
  have c11 : wf.cell? ⟨w.heap.size, 11, none⟩ = some (.slice ao3 no cap3) := (cell_of_block q7.2).trans rfl
  have c12 : wf.cell? ⟨w.heap.size, 12, none⟩ = some (.slice ao4 nn cap4) := (cell_of_block q7.2).trans rfl
  have r7 := (unhide R12).1.own q7.1 (by decide) (by decide)
  have k7 := (unhide R12).2.2.2.fresh q7.1.below hbase
  refine bodyPost_ret (v := .agg #[.int .i64 f0, .int .i64 f1, .int .i64 f2, .int .i64 (f3 : Int), .int .i64 f4, .int .i64 f5, .int .i64 f6, .int .i64 f7, .bool ((f8 : Int) == 1), .slice aot nt capt, .slice aoe ne cape, .slice ao3 no cap3, .slice ao4 nn cap4]) (by simp [results, Tryd.results48, go_sem, c0, c1, c2, c3, c4, c5, c6, c7, c8, c9, c10, c11, c12]) rfl ?_
  rw [unhide E1]
  refine ⟨.slice aot nt capt, .slice aoe ne cape, .slice ao3 no cap3, .slice ao4 nn cap4, vs, rfl, ?_, (unhide H0).next r7 k7, k7⟩
  simp only [Mes.rows, unhide HNT, unhide HNE, unhide HNO, unhide HNN]
  exact ⟨own_only (unhide OT12) q7.1 (by decide), own_only (unhide OE12) q7.1 (by decide), (unhide OM12).only q7.1 (by decide), own_only (unhide OO12) q7.1 (by decide), own_only (unhide ON12) q7.1 (by decide)⟩
end Go.Proofs.YtojmnlbdhpledaaDoor
namespace Go.Proofs.YtojmnlbdhpledaaDoor
open Go.RowKit

/-- what end does. -/
def rend (n : Nat) (s : Nat × Nat) : Nat × Nat := if s.1 < n then (s.1, if s.2 = 0 then 9 else s.2) else s

set_option maxHeartbeats 1000000 in
theorem rg_end {base : Nat} {wz w : World} {p : Nat} {ao : Option Addr} {n cap : Nat} {bs : List Nat} {s : Nat × Nat} (h : Rg base wz w p ao n cap bs s) :
    Calls Tryd.prog 62 #[.pointer (some ⟨p, 0, none⟩)] w fun e w' => e = .returned (.tuple #[]) ∧ Rg base wz w' p ao n cap bs (rend n s) ∧ Only base [113] w w' := by
  have H := hide h
  have hbase := h.2.2.1
  have hbig := h.2.1.big
  obtain ⟨ev, hp, hbp, herr, hpos⟩ := h.1
  obtain ⟨pos, er⟩ := s
  simp only at hp herr hpos
  have c0 : w.cell? ⟨p, 0, none⟩ = some (.slice ao n cap) := (cell_of_block hp).trans rfl
  have c1 : w.cell? ⟨p, 1, none⟩ = some (.int .i64 (pos : Int)) := (cell_of_block hp).trans rfl
  clear hp herr h
  by_cases hc : pos < n
  · have E1 : Hid (rend n (pos, er) = (pos, if er = 0 then 9 else er)) := by show _ = _; unfold rend; rw [if_pos hc]
    have hci : (pos : Int) < (n : Int) := by omega
    go_enter Tryd.func62, Tryd.ntmps62
    go_wp2_with fail
    go_quiet (fail)
    have c1' : (w.drewN nq).cell? ⟨p, 1, none⟩ = some (.int .i64 (pos : Int)) := c1
    go_wp2_with fail
    refine (fail_any base p ao n cap pos er pos 9 (by decide) (w.drewN nq) ((unhide H).1.below (drewN_below w nq)) hbase).mono ?_
    rintro e w1 ⟨rfl, r1, k1⟩
    have R1 := hide r1
    have K1 := hide k1
    clear r1 k1
    go_wp2
    go_end0
    rw [unhide E1]
    have kk := (Only.of_below (ts := [113]) (drewN_below w nq) hbase).trans (unhide K1)
    exact ⟨rfl, (unhide H).next (unhide R1) kk, kk⟩
  · have E1 : Hid (rend n (pos, er) = (pos, er)) := by show _ = _; unfold rend; rw [if_neg hc]
    have hci : ¬ (pos : Int) < (n : Int) := by omega
    go_enter Tryd.func62, Tryd.ntmps62
    go_wp2_with fail
    go_quiet (fail)
    go_wp2
    go_end0
    rw [unhide E1]
    have kk := Only.of_below (ts := [113]) (drewN_below w nq) hbase
    exact ⟨rfl, (unhide H).next ((unhide H).1.below (drewN_below w nq)) kk, kk⟩

/-- the bytes that are handed to Parse. -/
structure Given (w : World) (ao : Option Addr) (n m : Nat) (bs : List Nat) : Prop where
  len : bs.length = n
  room : n ≤ m
  nul : ao = none → m = 0
  big : n ≤ 1000000000000
  are : Bytes w ao bs
theorem Given.below {w w' : World} {ao : Option Addr} {n m : Nat} {bs : List Nat} (h : Given w ao n m bs) (hb : Below w.heap.size w w') : Given w' ao n m bs := ⟨h.len, h.room, h.nul, h.big, h.are.below hb⟩
theorem Given.src {w w1 : World} {ao : Option Addr} {n m : Nat} {bs : List Nat} (h : Given w ao n m bs) (hb : Below w.heap.size w w1) : Src w.heap.size w1 ao n m bs :=
  ⟨h.len, h.room, h.nul, h.big, fun _ ho => h.are.below (hb.trans ho.below)⟩

end Go.Proofs.YtojmnlbdhpledaaDoor
