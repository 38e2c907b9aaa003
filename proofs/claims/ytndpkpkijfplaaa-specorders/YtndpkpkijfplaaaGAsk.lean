/- synodallaw19.ask: a contract. -/
import Derived.Test.YtndpkpkijfplaaaGFits
import Derived.Laws.BytesString
namespace Go.Proofs.Ytndpkpkijfplaaa
open Go.RowKit Go.Maps
attribute [local go_sem ↓] Go.wp_at_zero Go.wp_at_succ

/-- two bytes as a text. -/
def two8 (c s : Nat) : ByteArray := (ByteArray.empty.push (UInt8.ofNat c)).push (UInt8.ofNat s)
/-- an entry that was asked for. -/
def askE (c s : Nat) : En := ⟨1, c, s, two8 c s, [], 0⟩
theorem wrap8 {c : Nat} (h : c < 256) : IntKind.u8.wrap (c : Int) = (c : Int) := by
  simp only [IntKind.wrap, IntKind.bits, IntKind.signed]
  simp
  omega
theorem conv2 {w : World} {g : Nat} {c s : Nat} {fr : Nat × Nat} (h : w.heap[g]? = some (.cells #[.int .u8 (c : Int), .int .u8 (s : Int)] 5 fr)) :
    (convert 46 9 (.slice (some ⟨g, 0, none⟩) 2 2)).run Try.prog w = .ok (.string (two8 c s)) w := by
  have hl : (loadCells ⟨g, 0, none⟩ 2).run Try.prog w = .ok (([(c : Int), (s : Int)]).map (Value.int .u8)).toArray w := by
    have := run_loadCells_list (P := Try.prog) w ⟨g, 0, none⟩ (([(c : Int), (s : Int)]).map (Value.int .u8)) (fun j v hj => by
      rw [Addr.add_lit, cell_of_block h]
      match j, hj with
      | 0, hj => simpa using hj
      | 1, hj => simpa using hj)
    simpa using this
  rw [run_convert_bytes_string w 46 9 5 _ _ 2 Try.underlying46 Try.underlying5 Try.underlying9, run_bytesToString w _ _ 2 [(c : Int), (s : Int)] hl]
  simp [two8]
set_option maxRecDepth 20000 in
set_option maxHeartbeats 2000000 in
theorem ask_any (c s : Nat) (hc : c < 256) (hs : s < 256) (w : World) : Calls Try.prog 18 #[.int .i64 (c : Int), .int .i64 (s : Int)] w fun e w' => e = .returned (ev (askE c s) none 0) ∧ Below w.heap.size w w' := by
  have wc := wrap8 hc
  have ws := wrap8 hs
  obtain ⟨W, hW⟩ : ∃ W, w.alloc (zbox 29) = W := ⟨_, rfl⟩
  have bW : Below w.heap.size w W := by rw [← hW]; exact (Below.refl _ w).alloc (Nat.le_refl _) _
  have xW : W.heap[w.heap.size]? = some (zbox 29) := by rw [← hW]; exact box_at _ _
  obtain ⟨V, hV⟩ : ∃ V, W.alloc (.cells #[.int .u8 (c : Int), .int .u8 (s : Int)] 5) = V := ⟨_, rfl⟩
  have bV : Below W.heap.size W V := by rw [← hV]; exact (Below.refl _ W).alloc (Nat.le_refl _) _
  have yV : V.heap[W.heap.size]? = some (.cells #[.int .u8 (c : Int), .int .u8 (s : Int)] 5 (0, 0)) := by rw [← hV]; exact box_at _ _
  have xV := Below.stay bV xW
  have cv := conv2 yV
  obtain ⟨v0, v1, v2, v3, v4, v5⟩ := six_of xV
  have fv : ∀ i, V.frozen? ⟨w.heap.size, i, none⟩ = false := fun i => free_of_block xV
  have SX := hide (six_end (v0 := .int .i64 1) (v1 := .int .i64 (c : Int)) (v2 := .int .i64 (s : Int)) (v3 := .string (two8 c s)) (v4 := .slice none 0 0) (v5 := .int .i64 0) xV (Nat.le_refl _) (below_far bW bV) _ rfl)
  have HW := hide hW
  clear hW bW xW bV yV xV hc hs
  subst hV
  go_enter Try.func18, Try.ntmps18
  go_upto_region 1 with fail
  rw [unhide HW]
  go_wp2
  obtain ⟨h1, h2, -⟩ := unhide SX
  obtain ⟨d0, d1, d2, d3, d4, d5⟩ := six_of h1
  refine bodyPost_ret (v := ev (askE c s) none 0) (by simp [results, Try.results18, go_sem, d0, d1, d2, d3, d4, d5, askE]) rfl ⟨rfl, h2⟩
end Go.Proofs.Ytndpkpkijfplaaa
