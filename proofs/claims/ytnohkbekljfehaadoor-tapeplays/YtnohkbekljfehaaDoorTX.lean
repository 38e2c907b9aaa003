/- The reference's tape in memory; its New, goes, Stop, Sync: contracts. -/
import Derived.Test.YtnohkbekljfehaaDoorTAppB
import Derived.BigQuiet
namespace Go.Proofs.YtnohkbekljfehaaDoor
open Go.RowKit

/-- the reference's tape: block p, its bytes in a row of its own; what is left is never below 0. -/
def XTp (base : Nat) (w : World) (p : Nat) (q : Option Nat) (s : St) : Prop :=
  ∃ v L, L = max s.left 0 ∧ v.ownBlock = q ∧ base ≤ p ∧ w.heap[p]? = some (.cells #[.int .i64 (s.room : Int), .int .i64 (s.syn : Int), v, .int .i64 L, .int .i64 (s.ops : Int), .bool s.dead] 43 (0, 0)) ∧
    Own base w v s.bs ∧ s.syn ≤ s.bs.length ∧ s.bs.length ≤ s.room ∧ s.room ≤ 1073741824
theorem XTp.kept {base b : Nat} {f : Nat → Prop} {w w' : World} {p : Nat} {q : Option Nat} {s : St} (h : XTp base w p q s) (hk : Kept b f w w') (hp : ¬ f p) (hq : ∀ k, q = some k → ¬ f k) : XTp base w' p q s := by
  obtain ⟨v, L, h0, h1, h2, h3, h4, h5⟩ := h
  exact ⟨v, L, h0, h1, h2, by rw [hk.2 p (blk_lt' h3) hp]; exact h3, h4.kept hk (fun k e => hq k (h1.symm.trans e)), h5⟩
theorem XTp.below {base : Nat} {w w' : World} {p : Nat} {q : Option Nat} {s : St} (h : XTp base w p q s) (hb : Below w.heap.size w w') : XTp base w' p q s :=
  h.kept (f := fun _ => False) (Kept.of_below hb (Nat.le_refl _)) id (fun _ _ => id)
theorem XTp.lt {base : Nat} {w : World} {p : Nat} {q : Option Nat} {s : St} (h : XTp base w p q s) : base ≤ p ∧ p < w.heap.size ∧ ∀ k, q = some k → base ≤ k ∧ k < w.heap.size := by
  obtain ⟨v, L, _, h1, h2, h3, h4, _⟩ := h
  exact ⟨h2, blk_lt' h3, fun k e => h4.1.lt k (h1.trans e)⟩

def St.goes (s : St) : Bool × St :=
  if s.left = 1 then (false, { s with left := 0, dead := true }) else if 1 < s.left then (true, { s with left := s.left - 1, ops := s.ops + 1 }) else (true, { s with ops := s.ops + 1 })
theorem begin_goes (s : St) (size : Nat) (h : s.dead = false) (hs : size ≤ s.room) : s.begin size = (if s.goes.1 = true then 0 else 1, s.goes.2) := by
  unfold St.begin St.goes
  rw [if_neg (by simp [h]), if_neg (by omega)]
  split
  · rfl
  split
  · rfl
  · rfl
theorem goes_same (s : St) : s.goes.2.bs = s.bs ∧ s.goes.2.room = s.room ∧ s.goes.2.syn = s.syn := by
  unfold St.goes
  split
  · exact ⟨rfl, rfl, rfl⟩
  split
  · exact ⟨rfl, rfl, rfl⟩
  · exact ⟨rfl, rfl, rfl⟩

theorem xnew_bad (room : Int) (w : World) (h : room < 1 ∨ 1073741824 < room) :
    Calls Tryd.prog 11 #[.int .i64 room] w fun e w' => e = .returned (.tuple #[.pointer none, .int .i64 1]) ∧ w' = w := by
  by_cases h1 : room < 1
  · clear h
    go_enter Tryd.func11, Tryd.ntmps11
    go_wp2
    go_ret2
    exact ⟨rfl, rfl⟩
  · have h2 : 1073741824 < room := by omega
    clear h
    go_enter Tryd.func11, Tryd.ntmps11
    go_wp2
    go_ret2
    exact ⟨rfl, rfl⟩
theorem xnew_ok (room : Nat) (w : World) (h1 : 1 ≤ room) (h2 : room ≤ 1073741824) :
    Calls Tryd.prog 11 #[.int .i64 (room : Int)] w fun e w' => e = .returned (.tuple #[.pointer (some ⟨w.heap.size, 0, none⟩), .int .i64 0]) ∧ XTp w.heap.size w' w.heap.size none ⟨room, [], 0, 0, 0, false⟩ ∧ Below w.heap.size w w' := by
  go_enter Tryd.func11, Tryd.ntmps11
  go_wp2
  go_ret2
  have N : ∀ o, (w.alloc o).heap[w.heap.size]? = some o := fun o => heap_alloc_new w o
  exact ⟨rfl, ⟨.slice none 0 0, 0, rfl, rfl, Nat.le_refl _, N _, Own.nil _ _, Nat.le_refl _, Nat.zero_le _, h2⟩, (Below.refl _ _).alloc (Nat.le_refl _) _⟩

set_option maxHeartbeats 1000000 in
theorem goes_any (base p : Nat) (q : Option Nat) (s : St) (w : World) (h : XTp base w p q s) (hd : s.dead = false) (ho : s.ops ≤ 4611686018427387904) (hl : s.left ≤ 9223372036854775807) :
    Calls Tryd.prog 29 #[.pointer (some ⟨p, 0, none⟩)] w fun e w' => e = .returned (.bool s.goes.1) ∧ XTp base w' p q s.goes.2 ∧ Kept base (fun k => k = p) w w' := by
  obtain ⟨room, bs, syn, ops, left, dead⟩ := s
  obtain ⟨v, L, hL, hv, hbp, hp, hown, hk⟩ := h
  simp only at hp hown hk ho hl hL hd
  subst hd
  have c3 : w.cell? ⟨p, 3, none⟩ = some (.int .i64 L) := (cell_of_block hp).trans rfl
  have c4 : w.cell? ⟨p, 4, none⟩ = some (.int .i64 (ops : Int)) := (cell_of_block hp).trans rfl
  have c5 : w.cell? ⟨p, 5, none⟩ = some (.bool false) := (cell_of_block hp).trans rfl
  have f3 : w.frozen? ⟨p, 3, none⟩ = false := free_of_block hp
  have f4 : w.frozen? ⟨p, 4, none⟩ = false := free_of_block hp
  have f5 : w.frozen? ⟨p, 5, none⟩ = false := free_of_block hp
  have hnp := hown.ne hp (by decide)
  have HP := hide hp
  have HO := hide hown
  have HK := hide hk
  have HV := hide hv
  have HN := hide hnp
  have K1 : ∀ i u, Kept base (fun k => k = p) w (w.setCell ⟨p, i, none⟩ u) := fun i u => (Kept.refl base (fun k => k = p) w).setCell (p := ⟨p, i, none⟩) hbp rfl u
  have K2 : ∀ i u j u', Kept base (fun k => k = p) w ((w.setCell ⟨p, i, none⟩ u).setCell ⟨p, j, none⟩ u') := fun i u j u' => (K1 i u).setCell (p := ⟨p, j, none⟩) hbp rfl u'
  have B1 : ∀ i u, (w.setCell ⟨p, i, none⟩ u).heap[p]? = _ := fun i u => setCell_block (unhide HP)
  have B2 : ∀ i u j u', ((w.setCell ⟨p, i, none⟩ u).setCell ⟨p, j, none⟩ u').heap[p]? = _ := fun i u j u' => setCell_block (setCell_block (unhide HP))
  have KK1 := hide K1
  have KK2 := hide K2
  have BB1 := hide B1
  have BB2 := hide B2
  clear hp hown hk hv hnp K1 K2 B1 B2
  by_cases h1 : left = 1
  · subst h1
    obtain rfl : L = 1 := by omega
    have e : St.goes ⟨room, bs, syn, ops, 1, false⟩ = (false, ⟨room, bs, syn, ops, 0, true⟩) := rfl
    rw [e]
    clear hL hl
    go_enter Tryd.func29, Tryd.ntmps29
    go_wp2
    go_ret
    exact ⟨rfl, ⟨v, 0, rfl, unhide HV, hbp, unhide BB2 _ _ _ _, (unhide HO).kept (unhide KK2 _ _ _ _) (unhide HN), unhide HK⟩, unhide KK2 _ _ _ _⟩
  · by_cases h2 : 1 < left
    · obtain rfl : L = left := by omega
      have e : St.goes ⟨room, bs, syn, ops, L, false⟩ = (true, ⟨room, bs, syn, ops + 1, L - 1, false⟩) := by simp [St.goes, h1, h2]
      rw [e]
      clear hL
      go_enter Tryd.func29, Tryd.ntmps29
      go_wp2
      go_ret
      exact ⟨rfl, ⟨v, L - 1, by simp only; omega, unhide HV, hbp, unhide BB2 _ _ _ _, (unhide HO).kept (unhide KK2 _ _ _ _) (unhide HN), unhide HK⟩, unhide KK2 _ _ _ _⟩
    · obtain rfl : L = 0 := by omega
      have e : St.goes ⟨room, bs, syn, ops, left, false⟩ = (true, ⟨room, bs, syn, ops + 1, left, false⟩) := by simp [St.goes, h1, h2]
      rw [e]
      have HL := hide hL
      clear hL
      go_enter Tryd.func29, Tryd.ntmps29
      go_wp2
      go_ret
      exact ⟨rfl, ⟨v, 0, unhide HL, unhide HV, hbp, unhide BB1 _ _, (unhide HO).kept (unhide KK1 _ _) (unhide HN), unhide HK⟩, unhide KK1 _ _⟩

theorem xstop_any (base p : Nat) (q : Option Nat) (s : St) (n : Int) (w : World) (h : XTp base w p q s) :
    Calls Tryd.prog 20 #[.pointer (some ⟨p, 0, none⟩), .int .i64 n] w fun e w' => e = .returned (.tuple #[]) ∧ XTp base w' p q { s with left := n } ∧ Kept base (fun k => k = p) w w' := by
  obtain ⟨room, bs, syn, ops, left, dead⟩ := s
  obtain ⟨v, L, hL, hv, hbp, hp, hown, hk⟩ := h
  simp only at hp hown hk
  have c3 : w.cell? ⟨p, 3, none⟩ = some (.int .i64 L) := (cell_of_block hp).trans rfl
  have f3 : w.frozen? ⟨p, 3, none⟩ = false := free_of_block hp
  have hnp := hown.ne hp (by decide)
  have HP := hide hp
  have HO := hide hown
  have HK := hide hk
  have HV := hide hv
  have HN := hide hnp
  have K1 : ∀ i u, Kept base (fun k => k = p) w (w.setCell ⟨p, i, none⟩ u) := fun i u => (Kept.refl base (fun k => k = p) w).setCell (p := ⟨p, i, none⟩) hbp rfl u
  have KK1 := hide K1
  clear hp hown hk hv hnp hL K1
  have B1 : ∀ i u, (w.setCell ⟨p, i, none⟩ u).heap[p]? = _ := fun i u => setCell_block (unhide HP)
  have BB1 := hide B1
  clear B1
  by_cases hn : n < 0
  · go_enter Tryd.func20, Tryd.ntmps20
    go_wp2
    go_end0
    exact ⟨rfl, ⟨v, 0, by simp only; omega, unhide HV, hbp, unhide BB1 _ _, (unhide HO).kept (unhide KK1 _ _) (unhide HN), unhide HK⟩, unhide KK1 _ _⟩
  · go_enter Tryd.func20, Tryd.ntmps20
    go_wp2
    all_goals go_end0
    all_goals exact ⟨rfl, ⟨v, n, by simp only; omega, unhide HV, hbp, unhide BB1 _ _, (unhide HO).kept (unhide KK1 _ _) (unhide HN), unhide HK⟩, unhide KK1 _ _⟩
end Go.Proofs.YtnohkbekljfehaaDoor
