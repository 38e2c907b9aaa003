/- synodallaw2.within, synodallaw2.known: contracts; what the listed variables give. -/
import Derived.Test.YthjpdglbliigcaaDoorSplitW
import Derived.Lib.SlBytesConst
namespace Go.Proofs.YthjpdglbliigcaaDoor
open Go.RowKit

theorem within_any (n m : Int) (w : World) (h1 : 0 < m) (h2 : m ≤ 1000000000000) :
    Calls Tryd.prog 24 #[.int .i64 n, .int .i64 m] w fun ev w' => ev = .returned (.int .i64 (n % m)) ∧ w' = w := by
  have hb := Int.emod_nonneg n (show m ≠ 0 by omega)
  have hl := Int.emod_lt_of_pos n h1
  have ht : n.tmod m = n % m ∨ n.tmod m = n % m - m := by
    have h := @Int.tmod_eq_emod n m
    split at h
    · left; simpa using h
    · right; omega
  have hz : (m == 0) = false := by simp; omega
  by_cases hn : n.tmod m < 0
  · have he : n.tmod m + m = n % m := by omega
    have lo : -1000000000000 ≤ n.tmod m := by omega
    have HE := Hid.out (p := Hid (n.tmod m + m = n % m)) he
    clear ht he hb hl
    go_enter Tryd.func24, Tryd.ntmps24
    go_wp2
    go_ret
    refine ⟨ret_int ?_, rfl⟩
    exact HE.out
  · have he : n.tmod m = n % m := by omega
    have HE := Hid.out (p := Hid (n.tmod m = n % m)) he
    clear ht he hb hl
    go_enter Tryd.func24, Tryd.ntmps24
    go_wp2
    go_ret
    refine ⟨ret_int ?_, rfl⟩
    exact HE.out

/-- what the listed variables hold, and that they lie ahead of all else. -/
def Start (w : World) : Prop := Table w ∧ Glob w ∧ 2 ≤ w.heap.size
theorem Start.below {w w' : World} (h : Start w) (hb : Below w.heap.size w w') : Start w' :=
  ⟨h.1.below hb (by have := h.2.2; omega), h.2.1.below hb (by have := h.2.2; omega), Nat.le_trans h.2.2 hb.size⟩
theorem Start.upto {base : Nat} {w w' : World} (h : Start w) (hb : Below base w w') (hz : 2 ≤ base) : Start w' :=
  ⟨h.1.below hb (by omega), h.2.1.below hb (by omega), Nat.le_trans h.2.2 hb.size⟩
theorem bytes_new (w : World) (bs : List Nat) (h : ∀ x ∈ bs, x < 256) (t : TypeId) (fr : Nat × Nat) : Bytes (w.alloc (.cells (u8s bs).toArray t fr)) (some ⟨w.heap.size, 0, none⟩) bs := by
  refine ⟨h, fun i hi => ⟨_, rfl, ?_⟩⟩
  rw [Addr.add_lit]
  have e : (w.alloc (.cells (u8s bs).toArray t fr)).heap[w.heap.size]? = some (.cells (u8s bs).toArray t fr) := heap_alloc_new _ _
  simp only [World.cell?, e]
  simp [u8s, List.getD_eq_getElem?_getD, List.getElem?_eq_getElem hi]

set_option maxRecDepth 8000 in
theorem known_any (w : World) (hS : Start w) : Calls Tryd.prog 7 #[] w fun ev w' => ev = .returned (.bool true) ∧ Below w.heap.size w w' := by
  have hb := bytes_new w [49, 50, 51, 52, 53, 54, 55, 56, 57] (by decide) 5 (9, 10)
  have hT := (hS.below ((Below.refl _ w).alloc (Nat.le_refl _) (.cells (u8s [49, 50, 51, 52, 53, 54, 55, 56, 57]).toArray 5 (9, 10)))).1
  have HB := hide hb
  have HT := hide hT
  have hcv := fun (w : World) (C : Array Value) (n c : Nat) => Lib.run_convert_bytes_const (P := Tryd.prog) w 27 5 C n c Tryd.underlying27 Tryd.underlying5
  clear hb hT
  go_enter Tryd.func7, Tryd.ntmps7
  go_wp2_with fail
  refine (crc_len _ 9 9 [49, 50, 51, 52, 53, 54, 55, 56, 57] rfl _ (unhide HB) (fun h => by cases h) (by decide) (unhide HT)).mono ?_
  rintro e w1 ⟨rfl, rfl⟩
  rw [Sum.known]
  go_wp2
  go_ret
  exact ⟨rfl, (Below.refl _ _).alloc (Nat.le_refl _) _⟩
end Go.Proofs.YthjpdglbliigcaaDoor
