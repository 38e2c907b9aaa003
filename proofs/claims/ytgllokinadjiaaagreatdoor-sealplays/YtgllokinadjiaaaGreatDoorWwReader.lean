/- wire's reader: fail, take: contracts by what they do to the place and to the first flaw. wire's reader: take: a contract. wire's writer: ints: a contract. wire's writer: a byte with a rule, a list, a configuration: contracts by what they do to what was laid and to the first flaw. -/
import Derived.Test.YtgllokinadjiaaaGreatDoorWwFrameAt
import Derived.BigQuiet
namespace Go.Proofs.YtgllokinadjiaaaGreatDoor.Ww
open Go.RowKit

/-- a reader of n bytes: its place, and its first flaw. -/
def Re (base : Nat) (w : World) (p : Nat) (ao : Option Addr) (n cap pos er : Nat) : Prop :=
  ∃ ev, w.heap[p]? = some (.cells #[.slice ao n cap, .int .i64 (pos : Int), ev] 167 (0, 0)) ∧ base ≤ p ∧ ErrB w ev er ∧ pos ≤ n
theorem Re.lt {base : Nat} {w : World} {p : Nat} {ao : Option Addr} {n cap pos er : Nat} (h : Re base w p ao n cap pos er) : p < w.heap.size := by
  obtain ⟨ev, hp, _⟩ := h
  by_cases hl : p < w.heap.size
  · exact hl
  · rw [Array.getElem?_eq_none (by omega)] at hp; cases hp
theorem Re.below {base : Nat} {w w' : World} {p : Nat} {ao : Option Addr} {n cap pos er : Nat} (h : Re base w p ao n cap pos er) (hb : Below w.heap.size w w') : Re base w' p ao n cap pos er := by
  have hl := h.lt
  obtain ⟨ev, hp, h1, h2, h3⟩ := h
  exact ⟨ev, by rw [hb.block p hl]; exact hp, h1, h2.only (Only.of_below (ts := []) hb (Nat.le_refl _)) (by simp), h3⟩

set_option maxHeartbeats 1000000 in
theorem fail_any (base p : Nat) (ao : Option Addr) (n cap pos er : Nat) (x : Int) (k : Nat) (hk : k ≠ 0) (w : World) (h : Re base w p ao n cap pos er) (hbase : base ≤ w.heap.size) :
    Calls Tryz.prog 88 #[.pointer (some ⟨p, 0, none⟩), .int .i64 x, .int .i64 (k : Int)] w fun e w' => e = .returned (.tuple #[]) ∧ Re base w' p ao n cap pos (if er = 0 then k else er) ∧ Only base [167] w w' := by
  have hplt := h.lt
  have H := hide h
  obtain ⟨ev, hp, hbp, herr, hpos⟩ := h
  by_cases he : er = 0
  · subst he
    rw [if_pos rfl]
    obtain rfl : ev = .nilIface := herr.none
    have c2 : w.cell? ⟨p, 2, none⟩ = some .nilIface := (cell_of_block hp).trans rfl
    have f2 : w.frozen? ⟨p, 2, none⟩ = false := free_of_block hp
    have HP := hide hp
    have HK := hide hk
    clear hp herr hk
    go_enter Tryz.func88, Tryz.ntmps88
    go_wp2
    go_end0
    have k1 : ∀ u, Only base [167] w (w.setCell ⟨p, 2, none⟩ u) := fun u => (Only.refl _ _ _).setCell (p := ⟨p, 2, none⟩) hbp u (unhide HP) (by simp)
    have es : ∀ u, (w.setCell ⟨p, 2, none⟩ u).heap.size = w.heap.size := fun u => by simp [World.setCell]
    have k2 : ∀ u o, Only base [167] w ((w.setCell ⟨p, 2, none⟩ u).alloc o) := fun u o => (k1 u).alloc (by rw [es]; exact hbase) o
    have b1 : ∀ u o, ((w.setCell ⟨p, 2, none⟩ u).alloc o).heap[p]? = some (.cells #[.slice ao n cap, .int .i64 (pos : Int), u] 167 (0, 0)) := fun u o => (Below.heap_alloc _ o p (by rw [es]; exact hplt)).trans (setCell_block (unhide HP))
    have b2 : ∀ u o, ((w.setCell ⟨p, 2, none⟩ u).alloc o).heap[w.heap.size]? = some o := fun u o => by have h := heap_alloc_new (w.setCell ⟨p, 2, none⟩ u) o; rw [es] at h; exact h
    exact ⟨rfl, ⟨_, b1 _ _, hbp, Or.inr ⟨w.heap.size, _, unhide HK, rfl, b2 _ _⟩, hpos⟩, k2 _ _⟩
  · rw [if_neg he]
    rcases herr with ⟨h0, _⟩ | ⟨b, x', _, rfl, _⟩
    · exact absurd h0 he
    have c2 : w.cell? ⟨p, 2, none⟩ = some (.iface 153 (.pointer (some ⟨b, 0, none⟩))) := (cell_of_block hp).trans rfl
    clear hp
    go_enter Tryz.func88, Tryz.ntmps88
    go_wp2
    go_end0
    exact ⟨rfl, unhide H, Only.refl _ _ _⟩
end Go.Proofs.YtgllokinadjiaaaGreatDoor.Ww
namespace Go.Proofs.YtgllokinadjiaaaGreatDoor.Ww
open Go.RowKit

/-- what take does to the place and to the first flaw (8: cut). -/
def rtake (n k : Nat) (s : Nat × Nat) : Nat × Nat := if s.2 ≠ 0 then s else if n - s.1 < k then (s.1, 8) else (s.1 + k, 0)
/-- what take answers. -/
def taken (bs : List Nat) (k : Nat) (s : Nat × Nat) : List Nat := if (rtake bs.length k s).2 = 0 then (bs.drop s.1).take k else []

set_option maxRecDepth 20000 in
set_option maxHeartbeats 2000000 in
theorem take_any (base p : Nat) (ao : Option Addr) (n cap pos er : Nat) (bs : List Nat) (hn : bs.length = n) (k : Nat) (w : World) (h : Re base w p ao n cap pos er) (hbase : base ≤ w.heap.size)
    (hby : ∀ w', Only base [167] w w' → Bytes w' ao bs) (hcap : n ≤ cap) (hnone : ao = none → cap = 0) (hnl : n ≤ 1000000000000) (hkl : k ≤ 1000000000000) :
    Calls Tryz.prog 92 #[.pointer (some ⟨p, 0, none⟩), .int .i64 (k : Int)] w fun e w' => ∃ ao' m cap', e = .returned (.slice ao' m cap') ∧ (taken bs k (pos, er)).length = m ∧ Bytes w' ao' (taken bs k (pos, er)) ∧ (ao' = none → cap' = 0) ∧ m ≤ cap' ∧
      Re base w' p ao n cap (rtake n k (pos, er)).1 (rtake n k (pos, er)).2 ∧ Only base [167] w w' := by
  have hplt := h.lt
  have H := hide h
  have HBY := hide hby
  have HN := hide hn
  have HNONE := hide hnone
  clear hby hn hnone
  by_cases he : er = 0
  · subst he
    obtain ⟨ev, hp, hbp, herr, hpos⟩ := h
    obtain rfl : ev = .nilIface := herr.none
    have c0 : w.cell? ⟨p, 0, none⟩ = some (.slice ao n cap) := (cell_of_block hp).trans rfl
    have c1 : w.cell? ⟨p, 1, none⟩ = some (.int .i64 (pos : Int)) := (cell_of_block hp).trans rfl
    have c2 : w.cell? ⟨p, 2, none⟩ = some .nilIface := (cell_of_block hp).trans rfl
    by_cases hc : n - pos < k
    · have e1 : rtake n k (pos, 0) = (pos, 8) := by unfold rtake; rw [if_neg (by simp), if_pos hc]
      have e2 : taken bs k (pos, 0) = [] := by unfold taken; rw [unhide HN, e1]; simp
      rw [e1, e2]
      have hci : (n : Int) - (pos : Int) < (k : Int) := by omega
      clear e1 e2 hp herr
      go_enter Tryz.func92, Tryz.ntmps92
      go_wp2_with fail
      go_quiet (fail)
      have c0' : (w.drewN nq).cell? ⟨p, 0, none⟩ = some (.slice ao n cap) := c0
      go_wp2_with fail
      refine (fail_any base p ao n cap pos 0 n 8 (by decide) (w.drewN nq) ((unhide H).below (drewN_below w nq)) hbase).mono ?_
      rw [if_pos rfl]
      rintro e w1 ⟨rfl, re1, k1⟩
      have R1 := hide re1
      have K1 := hide k1
      obtain ⟨ev1, hp1, _, herr1, _⟩ := re1
      obtain ⟨b, rfl⟩ : ∃ b : Nat, ev1 = .iface 153 (.pointer (some ⟨b, 0, none⟩)) := by
        rcases herr1 with ⟨h0, _⟩ | ⟨b, x, _, h1, _⟩
        · cases h0
        · exact ⟨b, h1⟩
      have d2 : w1.cell? ⟨p, 2, none⟩ = some (.iface 153 (.pointer (some ⟨b, 0, none⟩))) := (cell_of_block hp1).trans rfl
      clear hp1 herr1 k1
      go_wp2
      go_ret
      exact ⟨none, 0, 0, rfl, rfl, ⟨by simp, by simp⟩, fun _ => rfl, Nat.le_refl _, unhide R1, (Only.of_below (drewN_below w nq) hbase).trans (unhide K1)⟩
    · have e1 : rtake n k (pos, 0) = (pos + k, 0) := by unfold rtake; rw [if_neg (by simp), if_neg hc]
      have e2 : taken bs k (pos, 0) = (bs.drop pos).take k := by unfold taken; rw [unhide HN, e1]; simp
      have e3 : ((bs.drop pos).take k).length = k := by rw [List.length_take, List.length_drop, unhide HN]; omega
      rw [e1, e2]
      have hci : ¬ (n : Int) - (pos : Int) < (k : Int) := by omega
      have f1 : ∀ q, (w.drewN q).frozen? ⟨p, 1, none⟩ = false := fun q => free_of_block hp
      have HP := hide hp
      have E3 := hide e3
      clear e1 e2 e3 hp herr
      have k1 : ∀ q u, Only base [167] w ((w.drewN q).setCell ⟨p, 1, none⟩ u) := fun q u => (Only.of_below (drewN_below w q) hbase).setCell (p := ⟨p, 1, none⟩) hbp u (unhide HP) (by simp)
      have b1 : ∀ q u q', (((w.drewN q).setCell ⟨p, 1, none⟩ u).drewN q').heap[p]? = some (.cells #[.slice ao n cap, u, .nilIface] 167 (0, 0)) := fun q u q' => setCell_block (w := w.drewN q) (unhide HP)
      have k2 : ∀ q u q', Only base [167] w (((w.drewN q).setCell ⟨p, 1, none⟩ u).drewN q') := fun q u q' => (k1 q u).trans (Only.of_below (drewN_below _ q') (by simp [World.setCell]; exact hbase))
      have K2 := hide k2
      have B1 := hide b1
      clear k1 k2 b1
      cases ao with
      | none =>
        have hc0 := unhide HNONE rfl
        subst hc0
        have hn0 : n = 0 := by omega
        subst hn0
        have hp0 : pos = 0 := by omega
        subst hp0
        have hk0 : k = 0 := by omega
        subst hk0
        go_enter Tryz.func92, Tryz.ntmps92
        go_wp2_with fail
        go_quiet (fail)
        go_wp2_with fail
        go_quiet (fail)
        go_wp2
        go_ret
        exact ⟨none, 0, 0, rfl, unhide E3, ⟨by simp, by simp⟩, fun _ => rfl, Nat.le_refl _, ⟨_, unhide B1 _ _ _, hbp, Or.inl ⟨rfl, rfl⟩, by omega⟩, unhide K2 _ _ _⟩
      | some ad =>
        by_cases hcp : cap = pos
        · have hnp : n = cap := by omega
          have hk0 : k = 0 := by omega
          subst hcp
          subst hnp
          subst hk0
          go_enter Tryz.func92, Tryz.ntmps92
          go_wp2_with fail
          go_quiet (fail)
          go_wp2_with fail
          go_quiet (fail)
          go_wp2
          go_ret
          refine ⟨some ad, 0, 0, ?_, unhide E3, ⟨by simp, by simp⟩, (fun h => by cases h), Nat.le_refl _, ⟨_, ?_, hbp, Or.inl ⟨rfl, rfl⟩, by omega⟩, unhide K2 _ _ _⟩
          · first | rfl | simp
          · exact unhide B1 _ _ _
        · go_enter Tryz.func92, Tryz.ntmps92
          go_wp2_with fail
          go_quiet (fail)
          go_wp2_with fail
          go_quiet (fail)
          go_wp2
          go_ret
          refine ⟨some (ad.add pos), k, cap - pos, ?_, unhide E3, ((unhide HBY _ (unhide K2 _ _ _)).drop pos).take k, (fun h => by cases h), by omega, ⟨_, ?_, hbp, Or.inl ⟨rfl, rfl⟩, by omega⟩, unhide K2 _ _ _⟩
          · show Ending.returned (.slice (some (ad.add pos)) (pos + k - pos) (cap - pos)) = _
            rw [Nat.add_sub_cancel_left]
          · rw [show ((pos + k : Nat) : Int) = (pos : Int) + (k : Int) by omega]; exact unhide B1 _ _ _
  · have e1 : rtake n k (pos, er) = (pos, er) := by unfold rtake; rw [if_pos he]
    have e2 : taken bs k (pos, er) = [] := by unfold taken; rw [unhide HN, e1, if_neg he]
    rw [e1, e2]
    obtain ⟨ev, hp, hbp, herr, hpos⟩ := h
    obtain ⟨b, rfl⟩ : ∃ b : Nat, ev = .iface 153 (.pointer (some ⟨b, 0, none⟩)) := by
      rcases herr with ⟨h0, _⟩ | ⟨b, x, _, h1, _⟩
      · exact absurd h0 he
      · exact ⟨b, h1⟩
    have c0 : w.cell? ⟨p, 0, none⟩ = some (.slice ao n cap) := (cell_of_block hp).trans rfl
    have c1 : w.cell? ⟨p, 1, none⟩ = some (.int .i64 (pos : Int)) := (cell_of_block hp).trans rfl
    have c2 : w.cell? ⟨p, 2, none⟩ = some (.iface 153 (.pointer (some ⟨b, 0, none⟩))) := (cell_of_block hp).trans rfl
    clear hp herr e1 e2
    by_cases hc : n - pos < k
    · have hci : (n : Int) - (pos : Int) < (k : Int) := by omega
      go_enter Tryz.func92, Tryz.ntmps92
      go_wp2_with fail
      go_quiet (fail)
      have c0' : (w.drewN nq).cell? ⟨p, 0, none⟩ = some (.slice ao n cap) := c0
      go_wp2_with fail
      refine (fail_any base p ao n cap pos er n 8 (by decide) (w.drewN nq) ((unhide H).below (drewN_below w nq)) hbase).mono ?_
      rw [if_neg he]
      rintro e w1 ⟨rfl, re1, k1⟩
      have R1 := hide re1
      have K1 := hide k1
      obtain ⟨ev1, hp1, _, herr1, _⟩ := re1
      obtain ⟨b1, rfl⟩ : ∃ b1 : Nat, ev1 = .iface 153 (.pointer (some ⟨b1, 0, none⟩)) := by
        rcases herr1 with ⟨h0, _⟩ | ⟨b1, x, _, h1, _⟩
        · exact absurd h0 he
        · exact ⟨b1, h1⟩
      have d2 : w1.cell? ⟨p, 2, none⟩ = some (.iface 153 (.pointer (some ⟨b1, 0, none⟩))) := (cell_of_block hp1).trans rfl
      clear hp1 herr1 k1
      go_wp2
      go_ret
      exact ⟨none, 0, 0, rfl, rfl, ⟨by simp, by simp⟩, fun _ => rfl, Nat.le_refl _, unhide R1, (Only.of_below (drewN_below w nq) hbase).trans (unhide K1)⟩
    · have hci : ¬ (n : Int) - (pos : Int) < (k : Int) := by omega
      go_enter Tryz.func92, Tryz.ntmps92
      go_wp2_with fail
      go_quiet (fail)
      go_wp2
      go_ret
      exact ⟨none, 0, 0, rfl, rfl, ⟨by simp, by simp⟩, fun _ => rfl, Nat.le_refl _, (unhide H).below (drewN_below w nq), Only.of_below (drewN_below w nq) hbase⟩
end Go.Proofs.YtgllokinadjiaaaGreatDoor.Ww
namespace Go.Proofs.YtgllokinadjiaaaGreatDoor.Ww
open Go.RowKit

def num8 (n : Int) : List Nat := be8 (n % 18446744073709551616).toNat
def nums (ys : List Int) : List Nat := (ys.map num8).flatten
theorem num8_len (n : Int) : (num8 n).length = 8 := rfl
theorem nums_len (ys : List Int) : (nums ys).length = 8 * ys.length := by
  induction ys with
  | nil => rfl
  | cons y ys ih => simp only [nums, List.map_cons, List.flatten_cons, List.length_append, num8_len, List.length_cons] at *; omega
theorem nums_snoc (ys : List Int) (y : Int) : nums (ys ++ [y]) = nums ys ++ num8 y := by simp [nums]

/-- a block that a call which keeps 'Only base ts' leaves as it is. -/
def Stay (base : Nat) (ts : List TypeId) (w : World) (k : Nat) : Prop := k < base ∨ ∃ cur e fr, w.heap[k]? = some (.cells cur e fr) ∧ e ∉ ts
theorem Stay.heap {base : Nat} {ts : List TypeId} {w w' : World} {k : Nat} (h : Stay base ts w k) (ho : Only base ts w w') : w'.heap[k]? = w.heap[k]? := by
  rcases h with h | ⟨cur, e, fr, h, he⟩
  · exact ho.1.block k h
  · rw [ho.block h he, h]
theorem Stay.only {base : Nat} {ts : List TypeId} {w w' : World} {k : Nat} (h : Stay base ts w k) (ho : Only base ts w w') : Stay base ts w' k := by
  have e := h.heap ho
  rcases h with h | ⟨cur, t, fr, h, he⟩
  · exact Or.inl h
  · exact Or.inr ⟨cur, t, fr, by rw [e]; exact h, he⟩
/-- a slice of numbers that stays. -/
def Ints (base : Nat) (ts : List TypeId) (w : World) (ao : Option Addr) (ys : List Int) : Prop :=
  ∀ i, i < ys.length → ∃ a, ao = some a ∧ w.cell? (a.add i) = some (.int .i64 (ys.getD i 0)) ∧ Stay base ts w a.block
theorem Ints.only {base : Nat} {ts : List TypeId} {w w' : World} {ao : Option Addr} {ys : List Int} (h : Ints base ts w ao ys) (ho : Only base ts w w') : Ints base ts w' ao ys := fun i hi => by
  obtain ⟨a, e, hc, hs⟩ := h i hi
  refine ⟨a, e, ?_, hs.only ho⟩
  rw [World.cell?_of_block (w := w) (a := a.add i) (by rw [add_block]; exact hs.heap ho)]; exact hc

set_option maxRecDepth 20000 in
set_option maxHeartbeats 1000000 in
theorem ints_any (base p : Nat) (bs : List Nat) (er : Nat) (ao : Option Addr) (n cap : Nat) (ys : List Int) (hn : ys.length = n) (w : World) (h : Wr base w p bs er) (hy : Ints base [5, 117] w ao ys) (hbase : base ≤ w.heap.size) (hl : bs.length + 8 * n ≤ 1000000000) :
    Calls Tryz.prog 71 #[.pointer (some ⟨p, 0, none⟩), .slice ao n cap] w fun e w' => e = .returned (.tuple #[]) ∧ Wr base w' p (bs ++ nums ys) er ∧ Only base [5, 117] w w' := by
  have HW := hide h
  have HY := hide hy
  have HN := hide hn
  clear h hy hn
  go_enter Tryz.func71, Tryz.ntmps71
  go_wp2_with fail
  go_loopg [8] n (fun g iv wr => ∃ k : Nat, k ≤ n ∧ g = n - k ∧ iv = .int .i64 k ∧ Wr base wr p (bs ++ nums (ys.take k)) er ∧ Only base [5, 117] w wr)
  case atStart => exact ⟨0, Nat.zero_le _, by omega, rfl, by simpa [nums] using unhide HW, Only.refl _ _ _⟩
  case round =>
    obtain ⟨k, hk, hg, rfl, hwr, hon⟩ := hrel
    have HG := hide hg
    have HO := hide hon
    clear hg hon
    by_cases hlt : k < n
    · obtain ⟨a, rfl, hc, _⟩ := ((unhide HY).only (unhide HO)) k (by rw [unhide HN]; exact hlt)
      obtain ⟨v, ev, hp, hbp, ho, herr⟩ := hwr
      have c0 : wr.cell? ⟨p, 0, none⟩ = some v := (cell_of_block hp).trans rfl
      have HP := hide hp
      have HOW := hide ho
      have HE := hide herr
      have hlen : (bs ++ nums (ys.take k)).length ≤ 1000000000 := by rw [List.length_append, nums_len, List.length_take, unhide HN]; omega
      have HS : Hid (ys.take (k + 1) = ys.take k ++ [ys.getD k 0]) := take_succ ys 0 k (by rw [unhide HN]; exact hlt)
      have s1 : base ≤ wr.heap.size := Nat.le_trans hbase (unhide HO).size
      have hu : IntKind.u64.wrap (ys.getD k 0) = (((ys.getD k 0 % 18446744073709551616).toNat : Nat) : Int) := by rw [IntKind.wrap_u64]; omega
      have HQ : Hid (num8 (ys.getD k 0) = be8 (ys.getD k 0 % 18446744073709551616).toNat) := rfl
      have hul : (ys.getD k 0 % 18446744073709551616).toNat < 18446744073709551616 := by omega
      clear hp ho herr
      generalize (ys.getD k 0 % 18446744073709551616).toNat = m at *
      generalize ys.getD k 0 = y at *
      go_wp2_with fail
      refine (put8 base v _ m wr (unhide HOW) hlen s1 hul).mono ?_
      rintro e w2 ⟨v2, rfl, o2, k2⟩
      obtain ⟨ao2, cap2, rfl, _⟩ := o2.slice
      have hp2 := k2.block (unhide HP) (by decide)
      have d0 : w2.cell? ⟨p, 0, none⟩ = some v := (cell_of_block hp2).trans rfl
      have f0 : w2.frozen? ⟨p, 0, none⟩ = false := free_of_block hp2
      have HP2 := hide hp2
      have K2 := hide k2
      have O2 := hide o2
      clear hp2 k2 o2 c0 hc
      go_wp2
      go_roundg (n - (k + 1))
      case measure => have := unhide HG; omega
      case rel =>
        have k3 : ∀ u, Only base [117] w2 (w2.setCell ⟨p, 0, none⟩ u) := fun u => (Only.refl _ _ _).setCell (p := ⟨p, 0, none⟩) hbp u (unhide HP2) (by simp)
        refine ⟨k + 1, by omega, rfl, by go_num, ⟨_, ev, setCell_block (unhide HP2), hbp, ?_, ((unhide HE).only (unhide K2) (by decide)).only (k3 _) (by decide)⟩, (unhide HO).trans (((unhide K2).mono (Nat.le_refl _) (by simp)).trans ((k3 _).mono (Nat.le_refl _) (by simp)))⟩
        have e : bs ++ nums (ys.take (k + 1)) = bs ++ nums (ys.take k) ++ be8 m := by rw [unhide HS, nums_snoc, unhide HQ, List.append_assoc]
        have h := (unhide O2).only (k3 (.slice ao2 (bs ++ nums (ys.take k) ++ be8 m).length cap2)) (by decide)
        simp only [List.length_append, Nat.add_assoc] at h
        rw [e]; exact h
    · have ek : ys.take k = ys := List.take_of_length_le (by rw [unhide HN]; omega)
      rw [ek] at hwr
      have HWR := hide hwr
      clear hwr ek
      go_wp2
      refine bodyPost_end (v := .tuple #[]) (by simp [results, Tryz.results71]) rfl ⟨rfl, unhide HWR, unhide HO⟩
end Go.Proofs.YtgllokinadjiaaaGreatDoor.Ww
namespace Go.Proofs.YtgllokinadjiaaaGreatDoor.Ww
open Go.RowKit

def putRule (q : Nat) (n : Int) (s : List Nat × Nat) : List Nat × Nat := if s.2 ≠ 0 then s else if refuse q n ≠ 0 then (s.1, refuse q n) else (s.1 ++ [n.toNat], 0)
def putList (q : Nat) (ys : List Int) (s : List Nat × Nat) : List Nat × Nat :=
  if s.2 = 0 ∧ refuse q ys.length = 0 then ((putRule q ys.length s).1 ++ nums ys, 0) else putRule q ys.length s
theorem rule_le (q : Nat) : (rule q).2.1 ≤ 64 := by unfold rule; split <;> decide
theorem refuse_range {q : Nat} {n : Int} (h : refuse q n = 0) : 0 ≤ n ∧ n ≤ 64 := by
  have hq : ∀ q, (rule q).2.2 ≠ 0 := by intro q; unfold rule; split <;> decide
  have := rule_le q
  unfold refuse at h
  split at h
  · exact absurd h (hq q)
  · omega
theorem putRule_len (q : Nat) (n : Int) (s : List Nat × Nat) : (putRule q n s).1.length ≤ s.1.length + 1 := by
  unfold putRule; split
  · omega
  · split <;> simp

theorem ruled_any (base p q : Nat) (hq : q < 7) (s : List Nat × Nat) (n : Int) (hl : s.1.length ≤ 1000000000) (w : World) (h : Wr base w p s.1 s.2) (hbase : base ≤ w.heap.size) :
    Calls Tryz.prog 70 #[.pointer (some ⟨p, 0, none⟩), .int .i64 q, .int .i64 n] w fun e w' => e = .returned (.bool (decide (s.2 = 0 ∧ refuse q n = 0))) ∧ Wr base w' p (putRule q n s).1 (putRule q n s).2 ∧ Only base [5, 117] w w' := by
  obtain ⟨bs, er⟩ := s
  by_cases he : er = 0
  · subst he
    by_cases hr : refuse q n = 0
    · have hn := refuse_range hr
      obtain ⟨m, rfl⟩ : ∃ m : Nat, n = (m : Int) := ⟨n.toNat, by omega⟩
      refine (ruled_ok base p q hq bs m (by omega) hl w h hbase hr).mono ?_
      rintro e w' ⟨rfl, h1, h2⟩
      have e1 : putRule q (m : Int) (bs, 0) = (bs ++ [m], 0) := by unfold putRule; rw [if_neg (by simp), if_neg (by simpa using hr)]; simp
      rw [e1]
      exact ⟨by simp [hr], h1, h2⟩
    · refine (ruled_bad base p q hq bs n w h hbase hr).mono ?_
      rintro e w' ⟨rfl, h1, h2⟩
      have e1 : putRule q n (bs, 0) = (bs, refuse q n) := by unfold putRule; rw [if_neg (by simp), if_pos hr]
      rw [e1]
      exact ⟨by simp [hr], h1, h2⟩
  · refine (ruled_err base p q bs er n w h he).mono ?_
    rintro e w' ⟨rfl, rfl⟩
    have e1 : putRule q n (bs, er) = (bs, er) := by unfold putRule; rw [if_pos he]
    rw [e1]
    exact ⟨by simp [he], h, Only.refl _ _ _⟩

set_option maxHeartbeats 1000000 in
theorem list_any (base p q : Nat) (hq : q < 7) (s : List Nat × Nat) (ao : Option Addr) (n cap : Nat) (ys : List Int) (hn : ys.length = n) (hl : s.1.length ≤ 900000000) (w : World) (h : Wr base w p s.1 s.2) (hy : Ints base [5, 117] w ao ys) (hbase : base ≤ w.heap.size) :
    Calls Tryz.prog 64 #[.pointer (some ⟨p, 0, none⟩), .int .i64 q, .slice ao n cap] w fun e w' => e = .returned (.tuple #[]) ∧ Wr base w' p (putList q ys s).1 (putList q ys s).2 ∧ Only base [5, 117] w w' := by
  have HW := hide h
  have HY := hide hy
  have HN := hide hn
  clear h hy
  by_cases hc : s.2 = 0 ∧ refuse q ys.length = 0
  · have e1 : putList q ys s = ((putRule q ys.length s).1 ++ nums ys, 0) := by unfold putList; rw [if_pos hc]
    have e2 : (putRule q ys.length s).2 = 0 := by unfold putRule; rw [if_neg (by simp [hc.1]), if_neg (by simp [hc.2])]
    have hr := (refuse_range hc.2).2
    have hd : decide (s.2 = 0 ∧ refuse q ys.length = 0) = true := decide_eq_true hc
    have hpl := putRule_len q ys.length s
    rw [e1]
    subst hn
    have HD := hide hd
    have HE2 := hide e2
    clear e1 e2 hc hd
    go_enter Tryz.func64, Tryz.ntmps64
    go_wp2_with fail
    refine (ruled_any base p q hq s ys.length (by omega) w (unhide HW) hbase).mono ?_
    rw [unhide HD]
    rintro e w1 ⟨rfl, h1, k1⟩
    rw [unhide HE2] at h1
    have H1 := hide h1
    have K1 := hide k1
    clear h1 k1
    go_wp2_with fail
    refine (ints_any base p _ 0 ao ys.length cap ys rfl w1 (unhide H1) ((unhide HY).only (unhide K1)) (Nat.le_trans hbase (unhide K1).size) (by omega)).mono ?_
    rintro e w2 ⟨rfl, h2, k2⟩
    have H2 := hide h2
    have K2 := hide k2
    clear h2 k2
    go_wp2
    go_end0
    exact ⟨rfl, unhide H2, (unhide K1).trans (unhide K2)⟩
  · have e1 : putList q ys s = putRule q ys.length s := by unfold putList; rw [if_neg hc]
    have hd : decide (s.2 = 0 ∧ refuse q ys.length = 0) = false := decide_eq_false hc
    rw [e1]
    subst hn
    have HD := hide hd
    clear e1 hc hd
    go_enter Tryz.func64, Tryz.ntmps64
    go_wp2_with fail
    refine (ruled_any base p q hq s ys.length (by omega) w (unhide HW) hbase).mono ?_
    rw [unhide HD]
    rintro e w1 ⟨rfl, h1, k1⟩
    have H1 := hide h1
    have K1 := hide k1
    clear h1 k1
    go_wp2
    go_end0
    exact ⟨rfl, unhide H1, unhide K1⟩
end Go.Proofs.YtgllokinadjiaaaGreatDoor.Ww
