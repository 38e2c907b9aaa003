/- A net in memory: messages, what is under way, the nodes of one side; New, Len, Lost, Heal, picked, within: contracts. -/
import Derived.Test.YtnplhoekkoomiaaNBase
import Derived.Maps.OwnSet
import Derived.Deep.DeepCutAuto
namespace Go.Proofs.Ytnplhoekkoomiaa
open Go.RowKit Go.Maps

theorem setCell_block {w : World} {p i : Nat} {u : Value} {cs : Array Value} {t : TypeId} {fr : Nat × Nat} (h : w.heap[p]? = some (.cells cs t fr)) :
    (w.setCell ⟨p, i, none⟩ u).heap[p]? = some (.cells (cs.setIfInBounds i u) t fr) := by
  simp [World.setCell, Array.getElem?_modify, h]
theorem cell_of_block {w : World} {p i : Nat} {cs : Array Value} {t : TypeId} {fr : Nat × Nat} (h : w.heap[p]? = some (.cells cs t fr)) : w.cell? ⟨p, i, none⟩ = cs[i]? := by
  simp [World.cell?, h]
theorem free_of_block {w : World} {p i : Nat} {cs : Array Value} {t : TypeId} (h : w.heap[p]? = some (.cells cs t (0, 0))) : w.frozen? ⟨p, i, none⟩ = false := by
  simp [World.frozen?, h]
theorem setCell_size (w : World) (a : Addr) (u : Value) : (w.setCell a u).heap.size = w.heap.size := by simp [World.setCell]
theorem blk_lt' {w : World} {p : Nat} {o : Obj} (h : w.heap[p]? = some o) : p < w.heap.size := by
  by_cases hp : p < w.heap.size
  · exact hp
  · rw [Array.getElem?_eq_none (by omega)] at h; cases h

/-- a message of which From, To, Kind and Index alone are told. -/
structure M where
  f : Int
  t : Int
  k : Int
  i : Int
deriving Inhabited, DecidableEq
def M.cells (m : M) : Array Value := #[.int .i64 m.f, .int .i64 m.t, .int .i64 0, .int .i64 m.k, .int .i64 0, .int .i64 m.i, .int .i64 0, .int .i64 0, .bool false, .slice none 0 0, .slice none 0 0, .slice none 0 0, .slice none 0 0]

/-- v is a slice of pointers to the blocks bs, in a row of the call's own, from some place on. -/
def Way (base : Nat) (w : World) (v : Value) (bs : List Nat) : Prop :=
  (v = .slice none 0 0 ∧ bs = []) ∨ ∃ g off cap cur, v = .slice (some ⟨g, off, none⟩) bs.length cap ∧ base ≤ g ∧ w.heap[g]? = some (.cells cur 55 (0, 0)) ∧ bs.length ≤ cap ∧ cap ≤ maxLen ∧ cur.size = off + cap ∧ ∀ i b : Nat, bs[i]? = some b → cur[off + i]? = some (.pointer (some ⟨b, 0, none⟩))
/-- the messages in the blocks bs. -/
def Ms (base : Nat) (w : World) (bs : List Nat) (ms : List M) : Prop :=
  bs.length = ms.length ∧ ∀ (i b : Nat) (m : M), bs[i]? = some b → ms[i]? = some m → base ≤ b ∧ w.heap[b]? = some (.cells m.cells 36 (0, 0))
/-- the nodes of one side. -/
def Sd (base : Nat) (w : World) (mv : Value) (side : List Int) : Prop :=
  (mv = .map none ∧ side = []) ∨ ∃ b n D, mv = .map (some b) ∧ base ≤ b ∧ w.ownsMap (H := Unit) Try.prog 3 unitElem b n D ∧ ∀ x : Int, Maps.has D (.int .i64 x) = decide (x ∈ side)
def Nt (base : Nat) (w : World) (p : Nat) (bs : List Nat) (ms : List M) (side : List Int) (lost : Nat) : Prop :=
  ∃ v mv, base ≤ p ∧ w.heap[p]? = some (.cells #[v, mv, .int .i64 (lost : Int)] 53 (0, 0)) ∧ Way base w v bs ∧ Ms base w bs ms ∧ Sd base w mv side
def cutB (side : List Int) (f t : Int) : Bool := decide (f ∈ side) != decide (t ∈ side)

theorem Way.slice {base : Nat} {w : World} {v : Value} {bs : List Nat} (h : Way base w v bs) : ∃ ao cap, v = .slice ao bs.length cap ∧ bs.length ≤ cap ∧ cap ≤ maxLen := by
  rcases h with ⟨rfl, rfl⟩ | ⟨g, off, cap, cur, rfl, _, _, h1, h2, _⟩
  · exact ⟨none, 0, rfl, Nat.le_refl _, by decide⟩
  · exact ⟨_, cap, rfl, h1, h2⟩
theorem Way.kept {base : Nat} {w w' : World} {v : Value} {bs : List Nat} (h : Way base w v bs) (hk : ∀ (k : Nat) (cur : Array Value), w.heap[k]? = some (.cells cur 55 (0, 0)) → w'.heap[k]? = w.heap[k]?) : Way base w' v bs := by
  rcases h with h | ⟨g, off, cap, cur, e, hb, hg, r⟩
  · exact Or.inl h
  · exact Or.inr ⟨g, off, cap, cur, e, hb, by rw [hk g cur hg]; exact hg, r⟩
theorem Ms.kept {base : Nat} {w w' : World} {bs : List Nat} {ms : List M} (h : Ms base w bs ms) (hk : ∀ (k : Nat) (cur : Array Value), k ∈ bs → w.heap[k]? = some (.cells cur 36 (0, 0)) → w'.heap[k]? = w.heap[k]?) : Ms base w' bs ms :=
  ⟨h.1, fun i b m hb hm => by
    obtain ⟨h1, h2⟩ := h.2 i b m hb hm
    exact ⟨h1, by rw [hk b _ (List.mem_of_getElem? hb) h2]; exact h2⟩⟩
theorem Sd.kept {base : Nat} {w w' : World} {mv : Value} {side : List Int} (h : Sd base w mv side) (hk : ∀ k : Nat, (∀ cur t fr, w.heap[k]? ≠ some (.cells cur t fr)) → k < w.heap.size → w'.heap[k]? = w.heap[k]?) : Sd base w' mv side := by
  rcases h with h | ⟨b, n, D, e, hb, ho, r⟩
  · exact Or.inl h
  · refine Or.inr ⟨b, n, D, e, hb, ?_, r⟩
    obtain ⟨es, clock, h1, h2⟩ := ho
    refine ⟨es, clock, ?_, h2⟩
    rw [hk b (fun cur t fr h0 => by rw [h1] at h0; cases h0) (blk_lt' h1)]; exact h1
/-- a net stays, whatever else turns. -/
theorem Nt.kept {base : Nat} {w w' : World} {p : Nat} {bs : List Nat} {ms : List M} {side : List Int} {lost : Nat} (h : Nt base w p bs ms side lost)
    (hk : ∀ k : Nat, k < w.heap.size → base ≤ k → (∀ cur t fr, w.heap[k]? = some (.cells cur t fr) → t = 53 ∨ t = 55 ∨ t = 36 ∧ k ∈ bs) → w'.heap[k]? = w.heap[k]?) : Nt base w' p bs ms side lost := by
  obtain ⟨v, mv, h1, h2, h3, h4, h5⟩ := h
  refine ⟨v, mv, h1, ?_, ?_, ?_, ?_⟩
  · rw [hk p (blk_lt' h2) h1 (fun cur t fr h0 => by rw [h2] at h0; cases h0; exact Or.inl rfl)]; exact h2
  · rcases h3 with h | ⟨g, off, cap, cur, e, hb, hg, r⟩
    · exact Or.inl h
    · refine Or.inr ⟨g, off, cap, cur, e, hb, ?_, r⟩
      rw [hk g (blk_lt' hg) hb (fun cur' t fr h0 => by rw [hg] at h0; cases h0; exact Or.inr (Or.inl rfl))]; exact hg
  · refine ⟨h4.1, fun i b m hb hm => ?_⟩
    obtain ⟨g1, g2⟩ := h4.2 i b m hb hm
    refine ⟨g1, ?_⟩
    rw [hk b (blk_lt' g2) g1 (fun cur' t fr h0 => by rw [g2] at h0; cases h0; exact Or.inr (Or.inr ⟨rfl, List.mem_of_getElem? hb⟩))]; exact g2
  · rcases h5 with h | ⟨b, n, D, e, hb, ho, r⟩
    · exact Or.inl h
    · refine Or.inr ⟨b, n, D, e, hb, ?_, r⟩
      obtain ⟨es, clock, k1, k2⟩ := ho
      refine ⟨es, clock, ?_, k2⟩
      rw [hk b (blk_lt' k1) hb (fun cur t fr h0 => by rw [k1] at h0; cases h0)]; exact k1
theorem Nt.below {base : Nat} {w w' : World} {p : Nat} {bs : List Nat} {ms : List M} {side : List Int} {lost : Nat} (h : Nt base w p bs ms side lost) (hb : Below w.heap.size w w') : Nt base w' p bs ms side lost :=
  h.kept fun k hk _ _ => hb.block k hk
theorem Nt.only {base b : Nat} {ts : List TypeId} {w w' : World} {p : Nat} {bs : List Nat} {ms : List M} {side : List Int} {lost : Nat} (h : Nt base w p bs ms side lost) (ho : Only b ts w w') (h1 : 53 ∉ ts) (h2 : 55 ∉ ts) (h3 : 36 ∉ ts) : Nt base w' p bs ms side lost :=
  h.kept fun k hk _ hc => ho.2 k hk fun cur t fr h0 => by
    rcases hc cur t fr h0 with rfl | rfl | ⟨rfl, _⟩
    · exact h1
    · exact h2
    · exact h3

theorem new_any (w : World) : Calls Try.prog 8 #[] w fun e w' => e = .returned (.pointer (some ⟨w.heap.size, 0, none⟩)) ∧ Nt w.heap.size w' w.heap.size [] [] [] 0 ∧ Below w.heap.size w w' := by
  go_enter Try.func8, Try.ntmps8
  go_wp2
  go_ret
  have N : ∀ o, (w.alloc o).heap[w.heap.size]? = some o := fun o => heap_alloc_new w o
  exact ⟨rfl, ⟨_, _, Nat.le_refl _, N _, Or.inl ⟨rfl, rfl⟩, ⟨rfl, fun i b m h => by simp at h⟩, Or.inl ⟨rfl, rfl⟩⟩, (Below.refl _ _).alloc (Nat.le_refl _) _⟩

theorem len_any {base p : Nat} {bs : List Nat} {ms : List M} {side : List Int} {lost : Nat} (w : World) (h : Nt base w p bs ms side lost) :
    Calls Try.prog 17 #[.pointer (some ⟨p, 0, none⟩)] w fun e w' => e = .returned (.int .i64 (ms.length : Int)) ∧ w' = w := by
  obtain ⟨v, mv, h1, h2, h3, h4, h5⟩ := h
  obtain ⟨ao, cap, rfl, hc, hm⟩ := h3.slice
  have c0 : w.cell? ⟨p, 0, none⟩ = some (.slice ao bs.length cap) := (cell_of_block h2).trans rfl
  have e := h4.1
  rw [← e]
  clear h2 h3 h4 h5 e
  go_enter Try.func17, Try.ntmps17
  go_wp2
  go_ret
  exact ⟨rfl, rfl⟩
theorem lost_any {base p : Nat} {bs : List Nat} {ms : List M} {side : List Int} {lost : Nat} (w : World) (h : Nt base w p bs ms side lost) :
    Calls Try.prog 18 #[.pointer (some ⟨p, 0, none⟩)] w fun e w' => e = .returned (.int .i64 (lost : Int)) ∧ w' = w := by
  obtain ⟨v, mv, h1, h2, h3, h4, h5⟩ := h
  have c0 : w.cell? ⟨p, 2, none⟩ = some (.int .i64 (lost : Int)) := (cell_of_block h2).trans rfl
  clear h2 h3 h4 h5
  go_enter Try.func18, Try.ntmps18
  go_wp2
  go_ret
  exact ⟨rfl, rfl⟩
theorem heal_any {base p : Nat} {bs : List Nat} {ms : List M} {side : List Int} {lost : Nat} (w : World) (h : Nt base w p bs ms side lost) :
    Calls Try.prog 16 #[.pointer (some ⟨p, 0, none⟩)] w fun e w' => e = .returned (.tuple #[]) ∧ Nt base w' p bs ms [] lost ∧ Only base [53, 55] w w' := by
  obtain ⟨v, mv, h1, h2, h3, h4, h5⟩ := h
  have c0 : w.cell? ⟨p, 1, none⟩ = some mv := (cell_of_block h2).trans rfl
  have f0 : w.frozen? ⟨p, 1, none⟩ = false := free_of_block h2
  have o1 : ∀ u, Only base [53] w (w.setCell ⟨p, 1, none⟩ u) := fun u => (Only.refl _ _ w).setCell (p := ⟨p, 1, none⟩) h1 u h2 (by simp)
  have H2 := hide h2
  have H3 := hide h3
  have H4 := hide h4
  have HO := hide o1
  clear h2 h3 h4 h5 o1
  go_enter Try.func16, Try.ntmps16
  go_wp2
  go_end0
  refine ⟨rfl, ⟨v, .map none, h1, setCell_block (unhide H2), (unhide H3).kept (fun k cur hk => ?_), (unhide H4).kept (fun k cur _ hk => ?_), Or.inl ⟨rfl, rfl⟩⟩, (unhide HO _).mono (Nat.le_refl _) (by simp)⟩
  · exact (unhide HO _).2 k (blk_lt' hk) (fun c e f h0 => by rw [hk] at h0; cases h0; decide)
  · exact (unhide HO _).2 k (blk_lt' hk) (fun c e f h0 => by rw [hk] at h0; cases h0; decide)

theorem picked_any (n m : Int) (w : World) (h1 : 0 < m) (h2 : m ≤ 1000000000000) :
    Calls Try.prog 22 #[.int .i64 n, .int .i64 m] w fun ev w' => ev = .returned (.int .i64 (n % m)) ∧ w' = w := by
  have hb := Int.emod_nonneg n (show m ≠ 0 by omega)
  have hl := Int.emod_lt_of_pos n h1
  have ht : n.tmod m = n % m ∨ n.tmod m = n % m - m := by
    have h := @Int.tmod_eq_emod n m
    split at h
    · left; simpa using h
    · right; omega
  have hz : (m == 0) = false := by simp; omega
  by_cases hn : n.tmod m < 0
  · have he : n.tmod m + m = n % m := by omega
    have lo : -1000000000000 ≤ n.tmod m := by omega
    have HE := hide he
    clear ht he hb hl
    go_enter Try.func22, Try.ntmps22
    go_wp2
    go_ret
    refine ⟨ret_int ?_, rfl⟩
    exact unhide HE
  · have he : n.tmod m = n % m := by omega
    have HE := hide he
    clear ht he hb hl
    go_enter Try.func22, Try.ntmps22
    go_wp2
    go_ret
    refine ⟨ret_int ?_, rfl⟩
    exact unhide HE
theorem within_any (n m : Int) (w : World) (h1 : 0 < m) (h2 : m ≤ 1000000000000) :
    Calls Try.prog 9 #[.int .i64 n, .int .i64 m] w fun ev w' => ev = .returned (.int .i64 (n % m)) ∧ w' = w := by
  have hb := Int.emod_nonneg n (show m ≠ 0 by omega)
  have hl := Int.emod_lt_of_pos n h1
  have ht : n.tmod m = n % m ∨ n.tmod m = n % m - m := by
    have h := @Int.tmod_eq_emod n m
    split at h
    · left; simpa using h
    · right; omega
  have hz : (m == 0) = false := by simp; omega
  by_cases hn : n.tmod m < 0
  · have he : n.tmod m + m = n % m := by omega
    have lo : -1000000000000 ≤ n.tmod m := by omega
    have HE := hide he
    clear ht he hb hl
    go_enter Try.func9, Try.ntmps9
    go_wp2
    go_ret
    refine ⟨ret_int ?_, rfl⟩
    exact unhide HE
  · have he : n.tmod m = n % m := by omega
    have HE := hide he
    clear ht he hb hl
    go_enter Try.func9, Try.ntmps9
    go_wp2
    go_ret
    refine ⟨ret_int ?_, rfl⟩
    exact unhide HE
end Go.Proofs.Ytnplhoekkoomiaa
