/- net's cuts, numbers, entries, copied: contracts. -/
import Derived.Test.YtnplhoekkoomiaaNNet
import Derived.Deep.RegionHeldLaw
namespace Go.Proofs.Ytnplhoekkoomiaa
open Go.RowKit Go.Maps

theorem keyed : Keyed Try.prog 3 := int_keyed Try.underlying3
theorem zeroU (w : World) : (zeroValue 58).run Try.prog w = .ok (.agg #[]) w := by kernel_rfl

/-- what the map says of a node, in any world where it stands. -/
theorem Sd.look {base : Nat} {w : World} {mv : Value} {side : List Int} (h : Sd base w mv side) (x : Int) (hx : (Lit.int .i64 x).wf = true) (w' : World) (hw : ∀ k, k < w.heap.size → (∀ cur t fr, w.heap[k]? ≠ some (.cells cur t fr)) → w'.heap[k]? = w.heap[k]?) :
    (Instr.lookup 51 mv (.int .i64 x) true).run Try.prog w' = .ok (.tuple #[.agg #[], .bool (decide (x ∈ side))]) w' := by
  have h' := h.kept (w' := w') (fun k a b => hw k b a)
  rcases h' with ⟨rfl, rfl⟩ | ⟨b, n, D, rfl, hb, ho, r⟩
  · have := Maps.look_nil (w := w') true keyed Try.underlying51 (zeroU w') (keyOf_int_mk Try.underlying3 hx)
    simpa using this
  · obtain ⟨v, ps, hrun, hv⟩ := ho.look_ok keyed Try.underlying51 (zeroU w') unitElem_mk (keyOf_int_mk Try.underlying3 hx)
    obtain ⟨rfl, _⟩ := unitElem_inv hv
    rw [hrun, r]

set_option maxHeartbeats 1000000 in
theorem cuts_any {base p : Nat} {v mv lv : Value} {side : List Int} {mb mo : Nat} {f t : Int} (w : World) (h1 : w.heap[p]? = some (.cells #[v, mv, lv] 53 (0, 0))) (h5 : Sd base w mv side)
    (c0 : w.cell? ⟨mb, mo, none⟩ = some (.int .i64 f)) (c1 : w.cell? ⟨mb, mo + 1, none⟩ = some (.int .i64 t)) (hf : (Lit.int .i64 f).wf = true) (ht : (Lit.int .i64 t).wf = true) :
    Calls Try.prog 19 #[.pointer (some ⟨p, 0, none⟩), .pointer (some ⟨mb, mo, none⟩)] w fun e w' => e = .returned (.bool (cutB side f t)) ∧ Below w.heap.size w w' := by
  have d1 : w.cell? ⟨p, 1, none⟩ = some mv := (cell_of_block h1).trans rfl
  have L1 : ∀ x, Below w.heap.size w x → (Instr.lookup 51 mv (.int .i64 f) true).run Try.prog x = .ok (.tuple #[.agg #[], .bool (decide (f ∈ side))]) x := fun x hx => h5.look f hf x (fun k hk _ => hx.block k hk)
  have L2 : ∀ x, Below w.heap.size w x → (Instr.lookup 51 mv (.int .i64 t) true).run Try.prog x = .ok (.tuple #[.agg #[], .bool (decide (t ∈ side))]) x := fun x hx => h5.look t ht x (fun k hk _ => hx.block k hk)
  have a1 := L1 w.drew ((Below.refl _ w).drew)
  have a2 := L1 (w.alloc (.cells #[] 58)).drew ((((Below.refl _ w)).alloc (Nat.le_refl _) _).drew)
  have C := fun (x : World) (hx : Below w.heap.size w x) => show x.cell? ⟨p, 1, none⟩ = some mv ∧ x.cell? ⟨mb, mo, none⟩ = some (.int .i64 f) ∧ x.cell? ⟨mb, mo + 1, none⟩ = some (.int .i64 t) from
    ⟨by rw [hx.cell (blk_lt d1)]; exact d1, by rw [hx.cell (blk_lt c0)]; exact c0, by rw [hx.cell (blk_lt c1)]; exact c1⟩
  obtain ⟨q1, q2, _⟩ := C (w.alloc (.cells #[] 58)).drew ((((Below.refl _ w)).alloc (Nat.le_refl _) _).drew)
  have HC := hide C
  clear C
  have HL := hide L2
  clear h1 h5 L1 L2
  go_enter Try.func19, Try.ntmps19
  go_upto_region 1 with fail
  go_region
  all_goals
    obtain ⟨x, hx⟩ : ∃ x, (w.alloc (.cells #[] 58)).drew = x := ⟨_, rfl⟩
    rw [hx]
    have bx : Below w.heap.size w x := by rw [← hx]; exact (((Below.refl _ w)).alloc (Nat.le_refl _) _).drew
    have sx := bx.size
    have C := unhide HC
    have L := unhide HL
    have u1 := L x.drew bx.drew
    have u2 := L (x.alloc (.cells #[] 58)).drew (bx.alloc sx _).drew
    obtain ⟨z1, _, z2⟩ := C x bx
    obtain ⟨y1, _, y2⟩ := C (x.alloc (.cells #[] 58)).drew (bx.alloc sx _).drew
    have BX := hide (fun o => (bx.alloc sx o).drew)
    clear hx a1 a2 q1 q2 c0 c1 d1 C L HC HL bx
    go_upto_region 2 with fail
    go_region
  all_goals go_wp2
  all_goals go_ret
  all_goals exact ⟨rfl, unhide BX _⟩

theorem numbers_nil (w : World) : Calls Try.prog 24 #[.slice none 0 0] w fun e w' => e = .returned (.slice none 0 0) ∧ w' = w := by
  go_enter Try.func24, Try.ntmps24
  go_wp2
  go_ret
  exact ⟨rfl, rfl⟩
theorem entries_nil (w : World) : Calls Try.prog 25 #[.slice none 0 0] w fun e w' => e = .returned (.slice none 0 0) ∧ w' = w := by
  go_enter Try.func25, Try.ntmps25
  go_wp2
  refine wp_loop_rounds 1 ?_; rw [rounds_succ]
  go_wp2
  go_ret
  exact ⟨rfl, rfl⟩
end Go.Proofs.Ytnplhoekkoomiaa
