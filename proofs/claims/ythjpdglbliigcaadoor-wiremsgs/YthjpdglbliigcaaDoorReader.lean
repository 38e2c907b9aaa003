/- wire's reader: fail, take: contracts by what they do to the place and to the first flaw. -/
import Derived.Test.YthjpdglbliigcaaDoorWriter
import Derived.BigQuiet
namespace Go.Proofs.YthjpdglbliigcaaDoor
open Go.RowKit

/-- a reader of n bytes: its place, and its first flaw. -/
def Re (base : Nat) (w : World) (p : Nat) (ao : Option Addr) (n cap pos er : Nat) : Prop :=
  ∃ ev, w.heap[p]? = some (.cells #[.slice ao n cap, .int .i64 (pos : Int), ev] 113 (0, 0)) ∧ base ≤ p ∧ ErrB w ev er ∧ pos ≤ n
theorem Re.lt {base : Nat} {w : World} {p : Nat} {ao : Option Addr} {n cap pos er : Nat} (h : Re base w p ao n cap pos er) : p < w.heap.size := by
  obtain ⟨ev, hp, _⟩ := h
  by_cases hl : p < w.heap.size
  · exact hl
  · rw [Array.getElem?_eq_none (by omega)] at hp; cases hp
theorem Re.below {base : Nat} {w w' : World} {p : Nat} {ao : Option Addr} {n cap pos er : Nat} (h : Re base w p ao n cap pos er) (hb : Below w.heap.size w w') : Re base w' p ao n cap pos er := by
  have hl := h.lt
  obtain ⟨ev, hp, h1, h2, h3⟩ := h
  exact ⟨ev, by rw [hb.block p hl]; exact hp, h1, h2.only (Only.of_below (ts := []) hb (Nat.le_refl _)) (by simp), h3⟩

set_option maxHeartbeats 1000000 in
theorem fail_any (base p : Nat) (ao : Option Addr) (n cap pos er : Nat) (x : Int) (k : Nat) (hk : k ≠ 0) (w : World) (h : Re base w p ao n cap pos er) (hbase : base ≤ w.heap.size) :
    Calls Tryd.prog 74 #[.pointer (some ⟨p, 0, none⟩), .int .i64 x, .int .i64 (k : Int)] w fun e w' => e = .returned (.tuple #[]) ∧ Re base w' p ao n cap pos (if er = 0 then k else er) ∧ Only base [113] w w' := by
  have hplt := h.lt
  have H := hide h
  obtain ⟨ev, hp, hbp, herr, hpos⟩ := h
  by_cases he : er = 0
  · subst he
    rw [if_pos rfl]
    obtain rfl : ev = .nilIface := herr.none
    have c2 : w.cell? ⟨p, 2, none⟩ = some .nilIface := (cell_of_block hp).trans rfl
    have f2 : w.frozen? ⟨p, 2, none⟩ = false := free_of_block hp
    have HP := hide hp
    have HK := hide hk
    clear hp herr hk
    go_enter Tryd.func74, Tryd.ntmps74
    go_wp2
    go_end0
    have k1 : ∀ u, Only base [113] w (w.setCell ⟨p, 2, none⟩ u) := fun u => (Only.refl _ _ _).setCell (p := ⟨p, 2, none⟩) hbp u (unhide HP) (by simp)
    have es : ∀ u, (w.setCell ⟨p, 2, none⟩ u).heap.size = w.heap.size := fun u => by simp [World.setCell]
    have k2 : ∀ u o, Only base [113] w ((w.setCell ⟨p, 2, none⟩ u).alloc o) := fun u o => (k1 u).alloc (by rw [es]; exact hbase) o
    have b1 : ∀ u o, ((w.setCell ⟨p, 2, none⟩ u).alloc o).heap[p]? = some (.cells #[.slice ao n cap, .int .i64 (pos : Int), u] 113 (0, 0)) := fun u o => (Below.heap_alloc _ o p (by rw [es]; exact hplt)).trans (setCell_block (unhide HP))
    have b2 : ∀ u o, ((w.setCell ⟨p, 2, none⟩ u).alloc o).heap[w.heap.size]? = some o := fun u o => by have h := heap_alloc_new (w.setCell ⟨p, 2, none⟩ u) o; rw [es] at h; exact h
    exact ⟨rfl, ⟨_, b1 _ _, hbp, Or.inr ⟨w.heap.size, _, unhide HK, rfl, b2 _ _⟩, hpos⟩, k2 _ _⟩
  · rw [if_neg he]
    rcases herr with ⟨h0, _⟩ | ⟨b, x', _, rfl, _⟩
    · exact absurd h0 he
    have c2 : w.cell? ⟨p, 2, none⟩ = some (.iface 124 (.pointer (some ⟨b, 0, none⟩))) := (cell_of_block hp).trans rfl
    clear hp
    go_enter Tryd.func74, Tryd.ntmps74
    go_wp2
    go_end0
    exact ⟨rfl, unhide H, Only.refl _ _ _⟩
end Go.Proofs.YthjpdglbliigcaaDoor
