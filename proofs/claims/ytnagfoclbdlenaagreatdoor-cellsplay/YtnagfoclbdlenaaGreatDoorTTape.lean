/- A tape in memory; begin, Sync, Stop, Dead, Ops, New: contracts. -/
import Derived.Test.YtnagfoclbdlenaaGreatDoorTErrB
namespace Go.Proofs.YtnagfoclbdlenaaGreatDoor
open Go.RowKit

structure St where
  room : Nat
  bs : List Nat
  syn : Nat
  ops : Nat
  left : Int
  dead : Bool

/-- a tape: block p, its bytes in a row of its own (block q, or none). -/
def Tp (base : Nat) (w : World) (p : Nat) (q : Option Nat) (s : St) : Prop :=
  ∃ v, v.ownBlock = q ∧ base ≤ p ∧ w.heap[p]? = some (.cells #[.int .i64 (s.room : Int), v, .int .i64 (s.syn : Int), .int .i64 (s.ops : Int), .int .i64 s.left, .bool s.dead] 58 (0, 0)) ∧
    Own base w v s.bs ∧ s.syn ≤ s.bs.length ∧ s.bs.length ≤ s.room ∧ s.room ≤ 1073741824
/-- the blocks that a tape's calls turn. -/
def foot (p : Nat) (q : Option Nat) (k : Nat) : Prop := k = p ∨ q = some k

theorem setCell_block {w : World} {p i : Nat} {u : Value} {cs : Array Value} {t : TypeId} {fr : Nat × Nat} (h : w.heap[p]? = some (.cells cs t fr)) :
    (w.setCell ⟨p, i, none⟩ u).heap[p]? = some (.cells (cs.setIfInBounds i u) t fr) := by
  simp [World.setCell, Array.getElem?_modify, h]
theorem cell_of_block {w : World} {p i : Nat} {cs : Array Value} {t : TypeId} {fr : Nat × Nat} (h : w.heap[p]? = some (.cells cs t fr)) : w.cell? ⟨p, i, none⟩ = cs[i]? := by
  simp [World.cell?, h]
theorem free_of_block {w : World} {p i : Nat} {cs : Array Value} {t : TypeId} (h : w.heap[p]? = some (.cells cs t (0, 0))) : w.frozen? ⟨p, i, none⟩ = false := by
  simp [World.frozen?, h]
theorem setCell_size (w : World) (a : Addr) (u : Value) : (w.setCell a u).heap.size = w.heap.size := by simp [World.setCell]
theorem blk_lt' {w : World} {p : Nat} {o : Obj} (h : w.heap[p]? = some o) : p < w.heap.size := by
  by_cases hp : p < w.heap.size
  · exact hp
  · rw [Array.getElem?_eq_none (by omega)] at h; cases h
theorem Own.ne {base : Nat} {w : World} {v : Value} {bs : List Nat} {p : Nat} {cs : Array Value} {t : TypeId} {fr : Nat × Nat} (h : Own base w v bs) (hp : w.heap[p]? = some (.cells cs t fr)) (ht : t ≠ 5) : ∀ k, v.ownBlock = some k → k ≠ p := by
  intro k hk e
  subst e
  obtain ⟨_, cur, fr', hc⟩ := own_tag h.1 k hk
  rw [hp] at hc; cases hc; exact ht rfl
theorem Own.kept {base b : Nat} {f : Nat → Prop} {w w' : World} {v : Value} {bs : List Nat} (h : Own base w v bs) (hk : Kept b f w w') (hn : ∀ k, v.ownBlock = some k → ¬ f k) : Own base w' v bs := ⟨hk.own h.1 hn, h.2⟩
theorem GlobT.kept {base : Nat} {w w' : World} {a : Addr} (h : GlobT w a) (hb : Below base w w') (hz : 4 ≤ base) : GlobT w' a := by
  unfold GlobT; rw [hb.cell (p := ⟨1, 0, none⟩) (by simp only; omega)]; exact h
theorem ErrT.kept {base : Nat} {f : Nat → Prop} {w w' : World} {a : Addr} {ev : Value} {c : Nat} (h : ErrT w a ev c) (hk : Kept base f w w') (hn : ∀ b cs fr, w.heap[b]? = some (.cells cs 139 fr) → ¬ f b) : ErrT w' a ev c := by
  rcases h with h | h | h | ⟨h1, b, h2, h3⟩
  · exact Or.inl h
  · exact Or.inr (Or.inl h)
  · exact Or.inr (Or.inr (Or.inl h))
  · refine Or.inr (Or.inr (Or.inr ⟨h1, b, h2, ?_⟩))
    unfold Goes at h3 ⊢
    rw [hk.2 b (blk_lt' h3) (hn b _ _ h3)]; exact h3

/-- a tape stays, whatever else turns. -/
theorem Tp.kept {base b : Nat} {f : Nat → Prop} {w w' : World} {p : Nat} {q : Option Nat} {s : St} (h : Tp base w p q s) (hk : Kept b f w w') (hp : ¬ f p) (hq : ∀ k, q = some k → ¬ f k) : Tp base w' p q s := by
  obtain ⟨v, h1, h2, h3, h4, h5⟩ := h
  exact ⟨v, h1, h2, by rw [hk.2 p (blk_lt' h3) hp]; exact h3, h4.kept hk (fun k e => hq k (h1.symm.trans e)), h5⟩
theorem Tp.below {base : Nat} {w w' : World} {p : Nat} {q : Option Nat} {s : St} (h : Tp base w p q s) (hb : Below w.heap.size w w') : Tp base w' p q s :=
  h.kept (f := fun _ => False) (Kept.of_below hb (Nat.le_refl _)) id (fun _ _ => id)
theorem Tp.lt {base : Nat} {w : World} {p : Nat} {q : Option Nat} {s : St} (h : Tp base w p q s) : base ≤ p ∧ p < w.heap.size ∧ ∀ k, q = some k → base ≤ k ∧ k < w.heap.size := by
  obtain ⟨v, h1, h2, h3, h4, _⟩ := h
  exact ⟨h2, blk_lt' h3, fun k e => h4.1.lt k (h1.trans e)⟩

def St.begin (s : St) (size : Nat) : Nat × St :=
  if s.dead = true then (13, s) else if s.room < size then (14, s) else if s.left = 1 then (1, { s with left := 0, dead := true })
  else if 1 < s.left then (0, { s with left := s.left - 1, ops := s.ops + 1 }) else (0, { s with ops := s.ops + 1 })

set_option maxHeartbeats 1000000 in
theorem begin_any (base p : Nat) (q : Option Nat) (s : St) (size : Nat) (a : Addr) (w : World) (h : Tp base w p q s) (hG : GlobT w a) (hb : base ≤ w.heap.size) (_hs : size ≤ 4611686018427387904) (ho : s.ops ≤ 4611686018427387904) (hl : s.left ≤ 9223372036854775807) :
    Calls Tryz.prog 57 #[.pointer (some ⟨p, 0, none⟩), .int .i64 (size : Int)] w fun e w' => ∃ ev, e = .returned ev ∧ ErrT w' a ev (s.begin size).1 ∧ Tp base w' p q (s.begin size).2 ∧ Kept base (fun k => k = p) w w' := by
  obtain ⟨room, bs, syn, ops, left, dead⟩ := s
  obtain ⟨v, hv, hbp, hp, hown, hk⟩ := h
  simp only at hp hown hk ho hl
  have c0 : w.cell? ⟨p, 0, none⟩ = some (.int .i64 (room : Int)) := (cell_of_block hp).trans rfl
  have c3 : w.cell? ⟨p, 3, none⟩ = some (.int .i64 (ops : Int)) := (cell_of_block hp).trans rfl
  have c4 : w.cell? ⟨p, 4, none⟩ = some (.int .i64 left) := (cell_of_block hp).trans rfl
  have c5 : w.cell? ⟨p, 5, none⟩ = some (.bool dead) := (cell_of_block hp).trans rfl
  have f3 : w.frozen? ⟨p, 3, none⟩ = false := free_of_block hp
  have f4 : w.frozen? ⟨p, 4, none⟩ = false := free_of_block hp
  have f5 : w.frozen? ⟨p, 5, none⟩ = false := free_of_block hp
  have hg : w.cell? ⟨1, 0, none⟩ = some (.iface 175 (.pointer (some a))) := hG
  have hroom : room ≤ 1073741824 := hk.2.2
  have hplt : p < w.heap.size := blk_lt' hp
  have hnp := hown.ne hp (by decide)
  have HP := hide hp
  have HO := hide hown
  have HK := hide hk
  have HV := hide hv
  have HN := hide hnp
  have K1 : ∀ i u, Kept base (fun k => k = p) w (w.setCell ⟨p, i, none⟩ u) := fun i u => (Kept.refl base (fun k => k = p) w).setCell (p := ⟨p, i, none⟩) hbp rfl u
  clear hp hown hk hv hG hnp
  cases dead with
  | true =>
    have e : St.begin ⟨room, bs, syn, ops, left, true⟩ size = (13, ⟨room, bs, syn, ops, left, true⟩) := rfl
    rw [e]
    go_enter Tryz.func57, Tryz.ntmps57
    go_wp2
    go_ret
    exact ⟨_, rfl, Or.inr (Or.inl ⟨rfl, rfl⟩), ⟨v, unhide HV, hbp, unhide HP, unhide HO, unhide HK⟩, Kept.refl _ _ _⟩
  | false =>
    by_cases h1 : room < size
    · have e : St.begin ⟨room, bs, syn, ops, left, false⟩ size = (14, ⟨room, bs, syn, ops, left, false⟩) := by simp [St.begin, h1]
      rw [e]
      go_enter Tryz.func57, Tryz.ntmps57
      go_wp2
      go_ret
      exact ⟨_, rfl, Or.inr (Or.inr (Or.inl ⟨rfl, rfl⟩)), ⟨v, unhide HV, hbp, unhide HP, unhide HO, unhide HK⟩, Kept.refl _ _ _⟩
    by_cases h2 : left = 1
    · subst h2
      have e : St.begin ⟨room, bs, syn, ops, 1, false⟩ size = (1, ⟨room, bs, syn, ops, 0, true⟩) := by simp [St.begin, h1]
      rw [e]
      go_enter Tryz.func57, Tryz.ntmps57
      go_wp2
      go_ret
      have K2 : ∀ i u j u', Kept base (fun k => k = p) w ((w.setCell ⟨p, i, none⟩ u).setCell ⟨p, j, none⟩ u') := fun i u j u' => (K1 i u).setCell (p := ⟨p, j, none⟩) hbp rfl u'
      have K3 : ∀ i u j u' o, Kept base (fun k => k = p) w (((w.setCell ⟨p, i, none⟩ u).setCell ⟨p, j, none⟩ u').alloc o) := fun i u j u' o => (K2 i u j u').alloc (by rw [setCell_size, setCell_size]; exact hb) o
      have B3 : ∀ i u j u' o, (((w.setCell ⟨p, i, none⟩ u).setCell ⟨p, j, none⟩ u').alloc o).heap[p]? = _ := fun i u j u' o => (Below.heap_alloc _ o p (by rw [setCell_size, setCell_size]; exact hplt)).trans (setCell_block (setCell_block (unhide HP)))
      have N3 : ∀ i u j u' o, (((w.setCell ⟨p, i, none⟩ u).setCell ⟨p, j, none⟩ u').alloc o).heap[w.heap.size]? = some o := fun i u j u' o => by have h := heap_alloc_new ((w.setCell ⟨p, i, none⟩ u).setCell ⟨p, j, none⟩ u') o; rw [setCell_size, setCell_size] at h; exact h
      exact ⟨_, rfl, Or.inr (Or.inr (Or.inr ⟨rfl, w.heap.size, rfl, N3 _ _ _ _ _⟩)), ⟨v, unhide HV, hbp, B3 _ _ _ _ _, (unhide HO).kept (K3 _ _ _ _ _) (unhide HN), unhide HK⟩, K3 _ _ _ _ _⟩
    have h2' : (left == 1) = false := by simpa using h2
    by_cases h3 : 1 < left
    · have e : St.begin ⟨room, bs, syn, ops, left, false⟩ size = (0, ⟨room, bs, syn, ops + 1, left - 1, false⟩) := by simp [St.begin, h1, h2, h3]
      rw [e]
      go_enter Tryz.func57, Tryz.ntmps57
      go_wp2
      go_ret
      have K2 : ∀ i u j u', Kept base (fun k => k = p) w ((w.setCell ⟨p, i, none⟩ u).setCell ⟨p, j, none⟩ u') := fun i u j u' => (K1 i u).setCell (p := ⟨p, j, none⟩) hbp rfl u'
      have B2 : ∀ i u j u', ((w.setCell ⟨p, i, none⟩ u).setCell ⟨p, j, none⟩ u').heap[p]? = _ := fun i u j u' => setCell_block (setCell_block (unhide HP))
      exact ⟨_, rfl, Or.inl ⟨rfl, rfl⟩, ⟨v, unhide HV, hbp, B2 _ _ _ _, (unhide HO).kept (K2 _ _ _ _) (unhide HN), unhide HK⟩, K2 _ _ _ _⟩
    · have e : St.begin ⟨room, bs, syn, ops, left, false⟩ size = (0, ⟨room, bs, syn, ops + 1, left, false⟩) := by simp [St.begin, h1, h2, h3]
      rw [e]
      go_enter Tryz.func57, Tryz.ntmps57
      go_wp2
      go_ret
      have B1 : ∀ i u, (w.setCell ⟨p, i, none⟩ u).heap[p]? = _ := fun i u => setCell_block (unhide HP)
      exact ⟨_, rfl, Or.inl ⟨rfl, rfl⟩, ⟨v, unhide HV, hbp, B1 _ _, (unhide HO).kept (K1 _ _) (unhide HN), unhide HK⟩, K1 _ _⟩

theorem stop_any (base p : Nat) (q : Option Nat) (s : St) (n : Int) (w : World) (h : Tp base w p q s) :
    Calls Tryz.prog 19 #[.pointer (some ⟨p, 0, none⟩), .int .i64 n] w fun e w' => e = .returned (.tuple #[]) ∧ Tp base w' p q { s with left := n } ∧ Kept base (fun k => k = p) w w' := by
  obtain ⟨room, bs, syn, ops, left, dead⟩ := s
  obtain ⟨v, hv, hbp, hp, hown, hk⟩ := h
  simp only at hp hown hk
  have c4 : w.cell? ⟨p, 4, none⟩ = some (.int .i64 left) := (cell_of_block hp).trans rfl
  have f4 : w.frozen? ⟨p, 4, none⟩ = false := free_of_block hp
  have hnp := hown.ne hp (by decide)
  have HP := hide hp
  have HO := hide hown
  have HK := hide hk
  have HV := hide hv
  have HN := hide hnp
  have K1 : ∀ i u, Kept base (fun k => k = p) w (w.setCell ⟨p, i, none⟩ u) := fun i u => (Kept.refl base (fun k => k = p) w).setCell (p := ⟨p, i, none⟩) hbp rfl u
  clear hp hown hk hv hnp
  go_enter Tryz.func19, Tryz.ntmps19
  go_wp2
  go_end0
  have B1 : ∀ i u, (w.setCell ⟨p, i, none⟩ u).heap[p]? = _ := fun i u => setCell_block (unhide HP)
  exact ⟨rfl, ⟨v, unhide HV, hbp, B1 _ _, (unhide HO).kept (K1 _ _) (unhide HN), unhide HK⟩, K1 _ _⟩

theorem dead_any (base p : Nat) (q : Option Nat) (s : St) (w : World) (h : Tp base w p q s) :
    Calls Tryz.prog 20 #[.pointer (some ⟨p, 0, none⟩)] w fun e w' => e = .returned (.bool s.dead) ∧ w' = w := by
  obtain ⟨room, bs, syn, ops, left, dead⟩ := s
  obtain ⟨v, hv, hbp, hp, hown, hk⟩ := h
  simp only at hp hown hk
  have c5 : w.cell? ⟨p, 5, none⟩ = some (.bool dead) := (cell_of_block hp).trans rfl
  clear hp hown hk hv
  go_enter Tryz.func20, Tryz.ntmps20
  go_wp2
  go_ret
  exact ⟨rfl, rfl⟩

theorem new_bad (room : Int) (w : World) (h : room < 1 ∨ 1073741824 < room) :
    Calls Tryz.prog 10 #[.int .i64 room] w fun e w' => e = .returned (.tuple #[.pointer none, .int .i64 1]) ∧ w' = w := by
  by_cases h1 : room < 1
  · clear h
    go_enter Tryz.func10, Tryz.ntmps10
    go_wp2
    go_ret2
    exact ⟨rfl, rfl⟩
  · have h2 : 1073741824 < room := by omega
    clear h
    go_enter Tryz.func10, Tryz.ntmps10
    go_wp2
    go_ret2
    exact ⟨rfl, rfl⟩
theorem new_ok (room : Nat) (w : World) (h1 : 1 ≤ room) (h2 : room ≤ 1073741824) :
    Calls Tryz.prog 10 #[.int .i64 (room : Int)] w fun e w' => e = .returned (.tuple #[.pointer (some ⟨w.heap.size, 0, none⟩), .int .i64 0]) ∧ Tp w.heap.size w' w.heap.size none ⟨room, [], 0, 0, 0, false⟩ ∧ Below w.heap.size w w' := by
  go_enter Tryz.func10, Tryz.ntmps10
  go_wp2
  go_ret2
  have N : ∀ o, (w.alloc o).heap[w.heap.size]? = some o := fun o => heap_alloc_new w o
  exact ⟨rfl, ⟨.slice none 0 0, rfl, Nat.le_refl _, N _, Own.nil _ _, Nat.le_refl _, Nat.zero_le _, h2⟩, (Below.refl _ _).alloc (Nat.le_refl _) _⟩
end Go.Proofs.YtnagfoclbdlenaaGreatDoor
