/- What the seat's texts lean on beside: worlds drawn anew, rows of the call's own. -/
import Derived.Test.YthjpdglbliigcaaDoorFrameW
import Derived.Test.YthjpdglbliigcaaDoorAsW
namespace Go.Proofs.YthjpdglbliigcaaDoor
open Go.RowKit

theorem drewN_below (w : World) (k : Nat) : Below w.heap.size w (w.drewN k) := ⟨rfl, rfl, rfl, Nat.le_refl _, fun _ _ => rfl⟩
theorem flaw_err {w : World} {p : Value} {n : Nat} (hn : n ≠ 0) : Err (w.alloc (.cells #[p, .iface 28 (.int .i64 (n : Int))] 126)) (.iface 124 (.pointer (some ⟨w.heap.size, 0, none⟩))) n :=
  Or.inr ⟨w.heap.size, hn, rfl, by rw [World.cell?_alloc_at _ _ _ _ (by simp)]; rfl⟩

theorem Own.below {base : Nat} {w w' : World} {v : Value} {bs : List Nat} (h : Own base w v bs) (hb : Below w.heap.size w w') : Own base w' v bs := ⟨own_below h.1 hb, h.2⟩
theorem Own.only {base base' : Nat} {ts : List TypeId} {w w' : World} {v : Value} {bs : List Nat} (h : Own base w v bs) (ho : Only base' ts w w') (ht : 5 ∉ ts) : Own base w' v bs := ⟨own_only h.1 ho ht, h.2⟩
theorem Own.rebase {base base' : Nat} {w : World} {v : Value} {bs : List Nat} (h : Own base w v bs) (hb : base' ≤ base) : Own base' w v bs := by
  refine ⟨⟨h.1.1, ?_⟩, h.2⟩
  rcases h.1.2 with h0 | ⟨g, cap, cur, e, hg, rest⟩
  · exact Or.inl h0
  · exact Or.inr ⟨g, cap, cur, e, Nat.le_trans hb hg, rest⟩

theorem Tryd.info27 : (Tryd.prog.info? 27).map (fun i => (i.zero, i.size, i.bytes)) = some (some (.slice none 0 0), 1, 24) := by kernel_rfl
theorem one_slice (ao : Option Addr) (n c : Nat) : ∀ u ∈ [Value.slice ao n c], u.oneCell' = true := by
  intro u hu; simp only [List.mem_cons, List.not_mem_nil, or_false] at hu; subst hu; rfl
end Go.Proofs.YthjpdglbliigcaaDoor
