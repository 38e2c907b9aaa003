/- CellsRefuse: lemmas. -/
import Derived.Test.YtnagfoclbdlenaaGreatDoorCNice
import Derived.Test.YtnagfoclbdlenaaGreatDoorCWithin
import Derived.Test.YtnagfoclbdlenaaGreatDoorWLaws
namespace Go.Proofs.YtnagfoclbdlenaaGreatDoor
open Go.RowKit Go.Maps

theorem heap2 (w : World) (o1 o2 : Obj) : ((w.alloc o1).alloc o2).heap[w.heap.size]? = some o1 ∧ ((w.alloc o1).alloc o2).heap[w.heap.size + 1]? = some o2 ∧ Below w.heap.size w ((w.alloc o1).alloc o2) := by
  have sz : (w.alloc o1).heap.size = w.heap.size + 1 := by simp
  refine ⟨?_, ?_, ((Below.refl _ w).alloc (Nat.le_refl _) _).alloc (by rw [sz]; omega) _⟩
  · rw [((Below.refl (w.alloc o1).heap.size (w.alloc o1)).alloc (Nat.le_refl _) o2).block w.heap.size (by rw [sz]; omega)]; exact heap_alloc_new w o1
  · rw [← sz]; exact heap_alloc_new _ o2
theorem bytes_block {w : World} {b : Nat} {bs : List Nat} {t : TypeId} {fr : Nat × Nat} (h : w.heap[b]? = some (.cells (u8s bs).toArray t fr)) (h2 : ∀ x ∈ bs, x < 256) : Bytes w (some ⟨b, 0, none⟩) bs := by
  refine ⟨h2, fun i hi => ⟨_, rfl, ?_⟩⟩
  rw [Addr.add_lit]
  simp only [World.cell?, h]
  simp [u8s, List.getElem?_eq_getElem hi, List.getD_eq_getElem?_getD]
/-- two cells, built. -/
theorem cat_two (w : World) (n1 n2 : Int) (r1 r2 : Option Addr) (c1 c2 m1 m2 : Nat) (b1 b2 : List Nat) (h1 : b1.length = m1) (h2 : b2.length = m2) (y1 : Bytes w r1 b1) (y2 : Bytes w r2 b2) (z1 : r1 = none → c1 = 0) (z2 : r2 = none → c2 = 0) (k1 : m1 ≤ c1) (k2 : m2 ≤ c2) :
    CAt (w.alloc (.cells #[.int .i64 n1, .slice r1 m1 c1, .int .i64 n2, .slice r2 m2 c2] 40)) (some ⟨w.heap.size, 0, none⟩) [(n1, b1), (n2, b2)] := fun i n' bs' hi => by
  have hx := heap_alloc_new w (.cells #[.int .i64 n1, .slice r1 m1 c1, .int .i64 n2, .slice r2 m2 c2] 40)
  have hb : Below w.heap.size w (w.alloc (.cells #[.int .i64 n1, .slice r1 m1 c1, .int .i64 n2, .slice r2 m2 c2] 40)) := (Below.refl _ w).alloc (Nat.le_refl _) _
  have hi2 : i = 0 ∨ i = 1 := by have := (List.getElem?_eq_some_iff.1 hi).1; simp at this; omega
  rcases hi2 with rfl | rfl
  · simp at hi
    obtain ⟨rfl, rfl⟩ := hi
    subst h1
    exact ⟨_, 0, r1, c1, rfl, (cell_of_block hx).trans rfl, (cell_of_block hx).trans rfl, y1.below hb, z1, k1⟩
  · simp at hi
    obtain ⟨rfl, rfl⟩ := hi
    subst h2
    exact ⟨_, 0, r2, c2, rfl, (cell_of_block hx).trans rfl, (cell_of_block hx).trans rfl, y2.below hb, z2, k2⟩
/-- the cell that is good. -/
def goodC : Int × List Nat := (3, [97])
theorem own_none_all {base : Nat} {w : World} {v : Value} (h : CRow base w v (cellsOf noF)) : ∃ ao cap, v = .slice ao 0 cap := by
  obtain ⟨ao, cap, e, _⟩ := h.at
  have h0 : (cellsOf noF).length = 0 := by decide
  rw [h0] at e
  exact ⟨ao, cap, e⟩
def goodF : Int → List Nat := setF noF [goodC]
theorem good_at : goodF 3 = [97] := rfl
theorem good_len : ∀ x, (goodF x).length ≤ 12000 := setF_len (fun _ => Nat.zero_le _) (fun c hc => by simp at hc; subst hc; decide)
theorem one_bad {s : Int → Bool} {N : Int} (h : ¬ (0 ≤ N ∧ N < 8)) (m : Nat) : oneOf s N m = 1 := by simp only [oneOf]; rw [if_pos h]
theorem bad_first {N : Int} (h : ¬ (0 ≤ N ∧ N < 8)) (bs : List Nat) : refuseOf (fun _ => false) [(N, bs), (3, [97])] = 1 := by
  simp only [refuseOf]
  rw [one_bad h, if_neg (by decide)]
theorem bad_last {N : Int} (h : ¬ (0 ≤ N ∧ N < 8)) (bs : List Nat) : refuseOf (fun _ => false) [(3, [97]), (N, bs)] = 1 := by
  simp only [refuseOf]
  rw [if_pos (by decide), one_bad h, if_neg (by decide)]
theorem long_first (bs : List Nat) (h : 12000 < bs.length) : refuseOf (fun _ => false) [(4, bs), (3, [97])] = 5 := by
  have e : oneOf (fun _ => false) 4 bs.length = 5 := by simp [oneOf, h]
  simp only [refuseOf]
  rw [e, if_neg (by decide)]
theorem long_last (bs : List Nat) (h : 12000 < bs.length) : refuseOf (fun _ => false) [(3, [97]), (4, bs)] = 5 := by
  have e : oneOf (seeing (fun _ => false) 3) 4 bs.length = 5 := by simp [oneOf, seeing, h]
  simp only [refuseOf]
  rw [if_pos (by decide), e, if_neg (by decide)]
theorem made_zeros (M : Nat) : madeCells (Value.int .u8 0).cells M = (u8s (zeros M)).toArray := by
  apply Array.ext'
  have e : (madeCells #[Value.int .u8 0] M).toList = u8s (zeros M) := by rw [toList_madeCells_one, zeros, u8s, List.map_replicate]; rfl
  exact e
end Go.Proofs.YtnagfoclbdlenaaGreatDoor
