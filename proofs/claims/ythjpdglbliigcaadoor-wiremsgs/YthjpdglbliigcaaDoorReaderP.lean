/- wire's reader: end; wire.ParseEntry: contracts. -/
import Derived.Test.YthjpdglbliigcaaDoorReaderM
namespace Go.Proofs.YthjpdglbliigcaaDoor
open Go.RowKit

/-- what end does. -/
def rend (n : Nat) (s : Nat × Nat) : Nat × Nat := if s.1 < n then (s.1, if s.2 = 0 then 9 else s.2) else s

set_option maxHeartbeats 1000000 in
theorem rg_end {base : Nat} {wz w : World} {p : Nat} {ao : Option Addr} {n cap : Nat} {bs : List Nat} {s : Nat × Nat} (h : Rg base wz w p ao n cap bs s) :
    Calls Tryd.prog 62 #[.pointer (some ⟨p, 0, none⟩)] w fun e w' => e = .returned (.tuple #[]) ∧ Rg base wz w' p ao n cap bs (rend n s) ∧ Only base [113] w w' := by
  have H := hide h
  have hbase := h.2.2.1
  have hbig := h.2.1.big
  obtain ⟨ev, hp, hbp, herr, hpos⟩ := h.1
  obtain ⟨pos, er⟩ := s
  simp only at hp herr hpos
  have c0 : w.cell? ⟨p, 0, none⟩ = some (.slice ao n cap) := (cell_of_block hp).trans rfl
  have c1 : w.cell? ⟨p, 1, none⟩ = some (.int .i64 (pos : Int)) := (cell_of_block hp).trans rfl
  clear hp herr h
  by_cases hc : pos < n
  · have E1 : Hid (rend n (pos, er) = (pos, if er = 0 then 9 else er)) := by show _ = _; unfold rend; rw [if_pos hc]
    have hci : (pos : Int) < (n : Int) := by omega
    go_enter Tryd.func62, Tryd.ntmps62
    go_wp2_with fail
    go_quiet (fail)
    have c1' : (w.drewN nq).cell? ⟨p, 1, none⟩ = some (.int .i64 (pos : Int)) := c1
    go_wp2_with fail
    refine (fail_any base p ao n cap pos er pos 9 (by decide) (w.drewN nq) ((unhide H).1.below (drewN_below w nq)) hbase).mono ?_
    rintro e w1 ⟨rfl, r1, k1⟩
    have R1 := hide r1
    have K1 := hide k1
    clear r1 k1
    go_wp2
    go_end0
    rw [unhide E1]
    have kk := (Only.of_below (ts := [113]) (drewN_below w nq) hbase).trans (unhide K1)
    exact ⟨rfl, (unhide H).next (unhide R1) kk, kk⟩
  · have E1 : Hid (rend n (pos, er) = (pos, er)) := by show _ = _; unfold rend; rw [if_neg hc]
    have hci : ¬ (pos : Int) < (n : Int) := by omega
    go_enter Tryd.func62, Tryd.ntmps62
    go_wp2_with fail
    go_quiet (fail)
    go_wp2
    go_end0
    rw [unhide E1]
    have kk := Only.of_below (ts := [113]) (drewN_below w nq) hbase
    exact ⟨rfl, (unhide H).next ((unhide H).1.below (drewN_below w nq)) kk, kk⟩

/-- the bytes that are handed to Parse. -/
structure Given (w : World) (ao : Option Addr) (n m : Nat) (bs : List Nat) : Prop where
  len : bs.length = n
  room : n ≤ m
  nul : ao = none → m = 0
  big : n ≤ 1000000000000
  are : Bytes w ao bs
theorem Given.below {w w' : World} {ao : Option Addr} {n m : Nat} {bs : List Nat} (h : Given w ao n m bs) (hb : Below w.heap.size w w') : Given w' ao n m bs := ⟨h.len, h.room, h.nul, h.big, h.are.below hb⟩
theorem Given.src {w w1 : World} {ao : Option Addr} {n m : Nat} {bs : List Nat} (h : Given w ao n m bs) (hb : Below w.heap.size w w1) : Src w.heap.size w1 ao n m bs :=
  ⟨h.len, h.room, h.nul, h.big, fun _ ho => h.are.below (hb.trans ho.below)⟩

end Go.Proofs.YthjpdglbliigcaaDoor
