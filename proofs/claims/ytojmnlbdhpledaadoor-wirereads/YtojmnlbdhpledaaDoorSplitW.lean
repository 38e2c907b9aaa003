/- What the seat's texts lean on beside: worlds drawn anew, rows of the call's own. synodallaw2.within, synodallaw2.known: contracts; what the listed variables give. -/
import Derived.Test.YtojmnlbdhpledaaDoorPut
import Derived.Test.YtojmnlbdhpledaaDoorAsW
import Derived.Lib.SlBytesConst
namespace Go.Proofs.YtojmnlbdhpledaaDoor
open Go.RowKit

theorem drewN_below (w : World) (k : Nat) : Below w.heap.size w (w.drewN k) := ⟨rfl, rfl, rfl, Nat.le_refl _, fun _ _ => rfl⟩
theorem flaw_err {w : World} {p : Value} {n : Nat} (hn : n ≠ 0) : Err (w.alloc (.cells #[p, .iface 28 (.int .i64 (n : Int))] 126)) (.iface 124 (.pointer (some ⟨w.heap.size, 0, none⟩))) n :=
  Or.inr ⟨w.heap.size, hn, rfl, by rw [World.cell?_alloc_at _ _ _ _ (by simp)]; rfl⟩

theorem Own.below {base : Nat} {w w' : World} {v : Value} {bs : List Nat} (h : Own base w v bs) (hb : Below w.heap.size w w') : Own base w' v bs := ⟨own_below h.1 hb, h.2⟩
theorem Own.only {base base' : Nat} {ts : List TypeId} {w w' : World} {v : Value} {bs : List Nat} (h : Own base w v bs) (ho : Only base' ts w w') (ht : 5 ∉ ts) : Own base w' v bs := ⟨own_only h.1 ho ht, h.2⟩
theorem Own.rebase {base base' : Nat} {w : World} {v : Value} {bs : List Nat} (h : Own base w v bs) (hb : base' ≤ base) : Own base' w v bs := by
  refine ⟨⟨h.1.1, ?_⟩, h.2⟩
  rcases h.1.2 with h0 | ⟨g, cap, cur, e, hg, rest⟩
  · exact Or.inl h0
  · exact Or.inr ⟨g, cap, cur, e, Nat.le_trans hb hg, rest⟩

theorem Tryd.info27 : (Tryd.prog.info? 27).map (fun i => (i.zero, i.size, i.bytes)) = some (some (.slice none 0 0), 1, 24) := by kernel_rfl
theorem one_slice (ao : Option Addr) (n c : Nat) : ∀ u ∈ [Value.slice ao n c], u.oneCell' = true := by
  intro u hu; simp only [List.mem_cons, List.not_mem_nil, or_false] at hu; subst hu; rfl
end Go.Proofs.YtojmnlbdhpledaaDoor
namespace Go.Proofs.YtojmnlbdhpledaaDoor
open Go.RowKit

theorem within_any (n m : Int) (w : World) (h1 : 0 < m) (h2 : m ≤ 1000000000000) :
    Calls Tryd.prog 24 #[.int .i64 n, .int .i64 m] w fun ev w' => ev = .returned (.int .i64 (n % m)) ∧ w' = w := by
  have hb := Int.emod_nonneg n (show m ≠ 0 by omega)
  have hl := Int.emod_lt_of_pos n h1
  have ht : n.tmod m = n % m ∨ n.tmod m = n % m - m := by
    have h := @Int.tmod_eq_emod n m
    split at h
    · left; simpa using h
    · right; omega
  have hz : (m == 0) = false := by simp; omega
  by_cases hn : n.tmod m < 0
  · have he : n.tmod m + m = n % m := by omega
    have lo : -1000000000000 ≤ n.tmod m := by omega
    have HE := Hid.out (p := Hid (n.tmod m + m = n % m)) he
    clear ht he hb hl
    go_enter Tryd.func24, Tryd.ntmps24
    go_wp2
    go_ret
    refine ⟨ret_int ?_, rfl⟩
    exact HE.out
  · have he : n.tmod m = n % m := by omega
    have HE := Hid.out (p := Hid (n.tmod m = n % m)) he
    clear ht he hb hl
    go_enter Tryd.func24, Tryd.ntmps24
    go_wp2
    go_ret
    refine ⟨ret_int ?_, rfl⟩
    exact HE.out

/-- what the listed variables hold, and that they lie ahead of all else. -/
def Start (w : World) : Prop := Table w ∧ Glob w ∧ 2 ≤ w.heap.size
theorem Start.below {w w' : World} (h : Start w) (hb : Below w.heap.size w w') : Start w' :=
  ⟨h.1.below hb (by have := h.2.2; omega), h.2.1.below hb (by have := h.2.2; omega), Nat.le_trans h.2.2 hb.size⟩
theorem Start.upto {base : Nat} {w w' : World} (h : Start w) (hb : Below base w w') (hz : 2 ≤ base) : Start w' :=
  ⟨h.1.below hb (by omega), h.2.1.below hb (by omega), Nat.le_trans h.2.2 hb.size⟩
theorem bytes_new (w : World) (bs : List Nat) (h : ∀ x ∈ bs, x < 256) (t : TypeId) (fr : Nat × Nat) : Bytes (w.alloc (.cells (u8s bs).toArray t fr)) (some ⟨w.heap.size, 0, none⟩) bs := by
  refine ⟨h, fun i hi => ⟨_, rfl, ?_⟩⟩
  rw [Addr.add_lit]
  have e : (w.alloc (.cells (u8s bs).toArray t fr)).heap[w.heap.size]? = some (.cells (u8s bs).toArray t fr) := heap_alloc_new _ _
  simp only [World.cell?, e]
  simp [u8s, List.getD_eq_getElem?_getD, List.getElem?_eq_getElem hi]

set_option maxRecDepth 8000 in
theorem known_any (w : World) (hS : Start w) : Calls Tryd.prog 7 #[] w fun ev w' => ev = .returned (.bool true) ∧ Below w.heap.size w w' := by
  have hb := bytes_new w [49, 50, 51, 52, 53, 54, 55, 56, 57] (by decide) 5 (9, 10)
  have hT := (hS.below ((Below.refl _ w).alloc (Nat.le_refl _) (.cells (u8s [49, 50, 51, 52, 53, 54, 55, 56, 57]).toArray 5 (9, 10)))).1
  have HB := hide hb
  have HT := hide hT
  have hcv := fun (w : World) (C : Array Value) (n c : Nat) => Lib.run_convert_bytes_const (P := Tryd.prog) w 27 5 C n c Tryd.underlying27 Tryd.underlying5
  clear hb hT
  go_enter Tryd.func7, Tryd.ntmps7
  go_wp2_with fail
  refine (crc_len _ 9 9 [49, 50, 51, 52, 53, 54, 55, 56, 57] rfl _ (unhide HB) (fun h => by cases h) (by decide) (unhide HT)).mono ?_
  rintro e w1 ⟨rfl, rfl⟩
  rw [Sum.known]
  go_wp2
  go_ret
  exact ⟨rfl, (Below.refl _ _).alloc (Nat.le_refl _) _⟩
end Go.Proofs.YtojmnlbdhpledaaDoor
