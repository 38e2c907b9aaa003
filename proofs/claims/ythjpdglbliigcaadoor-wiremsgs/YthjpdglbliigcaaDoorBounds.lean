/- WireBounds: what is refused, by numbers alone; rows of zeros. -/
import Derived.Test.YthjpdglbliigcaaDoorEncE
import Derived.Laws.BytesArg
import Derived.Deep.OwnRows
namespace Go.Proofs.YthjpdglbliigcaaDoor
open Go.RowKit

theorem putRule_err (q : Nat) (n : Int) (s : List Nat × Nat) : (putRule q n s).2 = if s.2 ≠ 0 then s.2 else refuse q n := by
  unfold putRule
  by_cases h : s.2 ≠ 0
  · rw [if_pos h, if_pos h]
  · rw [if_neg h, if_neg h]
    by_cases h2 : refuse q n ≠ 0
    · rw [if_pos h2]
    · rw [if_neg h2]; simp at h2; simp [h2]
theorem putList_err (q : Nat) (ys : List Int) (s : List Nat × Nat) : (putList q ys s).2 = if s.2 ≠ 0 then s.2 else refuse q ys.length := by
  unfold putList
  by_cases h : s.2 = 0 ∧ refuse q ys.length = 0
  · rw [if_pos h, if_neg (by simp [h.1]), h.2]
  · rw [if_neg h]; exact putRule_err q _ s
theorem putText_err (t : ByteArray) (s : List Nat × Nat) : (putText t s).2 = if s.2 ≠ 0 then s.2 else refuse 4 t.size := by
  unfold putText
  by_cases h : s.2 = 0 ∧ refuse 4 t.size = 0
  · rw [if_pos h, if_neg (by simp [h.1]), h.2]
  · rw [if_neg h]; exact putRule_err 4 _ s
theorem putInts_err (ys : List Int) (s : List Nat × Nat) : (putInts ys s).2 = s.2 := rfl
/-- the first of some numbers that is not 0. -/
def firstOf : List Nat → Nat
  | [] => 0
  | x :: l => if x ≠ 0 then x else firstOf l
theorem putEntry_err (kind client seq : Int) (t : ByteArray) (ys : List Int) (to' : Int) (s : List Nat × Nat) : (putEntry kind client seq t ys to' s).2 = firstOf [s.2, refuse 0 kind, refuse 4 t.size, refuse 5 ys.length, refuse 1 to'] := by
  unfold putEntry
  rw [putRule_err, putList_err, putText_err, putInts_err, putRule_err]
  simp only [firstOf]
  by_cases h0 : s.2 = 0 <;> by_cases h1 : refuse 0 kind = 0 <;> by_cases h2 : refuse 4 (t.size : Int) = 0 <;> by_cases h3 : refuse 5 (ys.length : Int) = 0 <;> by_cases h4 : refuse 1 to' = 0 <;> simp [h0, h1, h2, h3, h4]
/-- an entry of zeros. -/
def zeroE : En := ⟨0, 0, 0, ByteArray.empty, [], 0⟩
theorem putE_zero (s : List Nat × Nat) : (putE zeroE s).2 = s.2 := by
  unfold putE zeroE
  rw [putEntry_err]
  have e : ∀ x, firstOf [x, refuse 0 0, refuse 4 (ByteArray.empty.size : Int), refuse 5 ((([] : List Int).length : Nat) : Int), refuse 1 0] = x := by
    intro x
    have h0 : refuse 0 0 = 0 := by decide
    have h1 : refuse 4 (ByteArray.empty.size : Int) = 0 := by decide
    have h2 : refuse 5 ((([] : List Int).length : Nat) : Int) = 0 := by decide
    have h3 : refuse 1 0 = 0 := by decide
    simp only [firstOf, h0, h1, h2, h3]
    by_cases hx : x = 0 <;> simp [hx]
  exact e s.2
theorem putEs_zero (n : Nat) : ∀ s : List Nat × Nat, (putEs (List.replicate n zeroE) s).2 = s.2 := by
  induction n with
  | zero => intro s; rfl
  | succ n ih => intro s; rw [List.replicate_succ]; show (putEs (List.replicate n zeroE) (putE zeroE s)).2 = _; rw [ih, putE_zero]
theorem putEntries_zero (n : Nat) (s : List Nat × Nat) : (putEntries (List.replicate n zeroE) s).2 = if s.2 ≠ 0 then s.2 else refuse 6 n := by
  unfold putEntries
  rw [List.length_replicate]
  by_cases h : s.2 = 0 ∧ refuse 6 n = 0
  · rw [if_pos h, if_neg (by simp [h.1]), putEs_zero, putRule_err, if_neg (by simp [h.1])]
  · rw [if_neg h]; exact putRule_err 6 _ s
theorem putMsg_err (kind : Int) (terms : List Int) (n : Nat) : (putMsg 0 0 0 kind 0 0 0 0 false terms (List.replicate n zeroE) [] [] ([], 0)).2 = firstOf [refuse 2 kind, refuse 6 terms.length, refuse 6 n] := by
  unfold putMsg putConfig
  rw [putList_err, putList_err, putEntries_zero, putList_err, putRule_err, putInts_err, putRule_err, putInts_err]
  have h3 : refuse 3 (bitOf false) = 0 := by decide
  have h5 : refuse 5 ((([] : List Int).length : Nat) : Int) = 0 := by decide
  rw [h3, h5]
  simp only [firstOf]
  by_cases h1 : refuse 2 kind = 0 <;> by_cases h2 : refuse 6 (terms.length : Int) = 0 <;> by_cases h4 : refuse 6 (n : Int) = 0 <;> simp [h1, h2, h4]
theorem putConfig_err (n : Nat) : (putConfig [] (List.replicate n 0) ([], 0)).2 = refuse 5 n := by
  unfold putConfig
  rw [putList_err, putList_err, List.length_replicate]
  have h5 : refuse 5 ((([] : List Int).length : Nat) : Int) = 0 := by decide
  rw [h5]; simp

/-- bytes as a string. -/
def str (bs : List Nat) : ByteArray := strOfNums (bs.map Int.ofNat)
theorem conv_str {w : World} {ao : Option Addr} {n cap : Nat} {bs : List Nat} (hb : Bytes w ao bs) (hn : bs.length = n) :
    (convert 27 9 (.slice ao n cap)).run Tryd.prog w = .ok (.string (str bs)) w := by
  subst hn
  cases ao with
  | none =>
    obtain rfl := hb.none_nil
    exact run_convert_bytes_nil w 27 5 Tryd.underlying27 Tryd.underlying5 _ _ 9 Tryd.underlying9
  | some a =>
    have hl : (loadCells a bs.length).run Tryd.prog w = .ok ((bs.map Int.ofNat).map (Value.int .u8)).toArray w := by
      have := run_loadCells_list (P := Tryd.prog) w a ((bs.map Int.ofNat).map (Value.int .u8)) (fun j v hj => hb.news j v (by simpa [u8s] using hj))
      simpa using this
    rw [run_convert_bytes_string w 27 9 5 _ _ cap Tryd.underlying27 Tryd.underlying5 Tryd.underlying9, run_bytesToString w _ _ cap (bs.map Int.ofNat) hl, foldl_push_bytes]
    simp [str, strOfNums, ByteArray.empty, ByteArray.emptyWithCapacity]
    rfl
theorem str_size (bs : List Nat) : (str bs).size = bs.length := by simp [str, strOfNums, ByteArray.size]
/-- zeros. -/
def zeros (n : Nat) : List Nat := List.replicate n 0
theorem zeros_cells (n : Nat) : (madeCells #[Value.int .u8 0] n).toList = u8s (zeros n) := by rw [toList_madeCells_one, zeros, u8s, List.map_replicate]; rfl
theorem zeros_at {w : World} {b n : Nat} {fr : Nat × Nat} (h : w.heap[b]? = some (.cells (madeCells #[Value.int .u8 0] n) 5 fr)) : Bytes w (some ⟨b, 0, none⟩) (zeros n) := by
  refine ⟨fun x hx => by have := List.eq_of_mem_replicate hx; omega, fun i hi => ⟨_, rfl, ?_⟩⟩
  rw [Addr.add_lit]
  simp only [World.cell?, h, Nat.zero_add]
  have e : (madeCells #[Value.int .u8 0] n)[i]? = (u8s (zeros n))[i]? := by rw [← zeros_cells]; simp
  rw [e, u8s, List.getElem?_map, List.getD_eq_getElem?_getD, List.getElem?_eq_getElem hi]; rfl
theorem Tryd.info3 : (Tryd.prog.info? 3).map (fun i => (i.zero, i.size, i.bytes)) = some (some (.int .i64 0), 1, 8) := by kernel_rfl
theorem make_bytes (n : Nat) (h : n ≤ 1000000) (w : World) : (Instr.makeSlice 27 (.int .i64 (n : Int)) (.int .i64 (n : Int))).run Tryd.prog w = .ok (.slice (some ⟨w.heap.size, 0, none⟩) n n) (w.alloc (.cells (madeCells #[.int .u8 0] n) 5)) :=
  run_make_row' 27 5 (.int .u8 0) 1 Tryd.underlying27 Tryd.info5 rfl .i64 .i64 n (by omega) (by omega) w
theorem make_ints (n : Nat) (h : n ≤ 1000000) (w : World) : (Instr.makeSlice 22 (.int .i64 (n : Int)) (.int .i64 (n : Int))).run Tryd.prog w = .ok (.slice (some ⟨w.heap.size, 0, none⟩) n n) (w.alloc (.cells (madeCells #[.int .i64 0] n) 3)) :=
  run_make_row' 22 3 (.int .i64 0) 8 Tryd.underlying22 Tryd.info3 rfl .i64 .i64 n (by omega) (by omega) w
/-- the cells of an entry of zeros. -/
def zcells : Array Value := #[.int .i64 0, .int .i64 0, .int .i64 0, .string ByteArray.empty, .slice none 0 0, .int .i64 0]
theorem Tryd.infoE : (Tryd.prog.info? 24).map (fun i => (i.zero, i.size, i.bytes)) = some (some (.agg zcells), 6, 72) := by kernel_rfl
theorem make_ents (n : Nat) (h : n ≤ 1000000) (w : World) : (Instr.makeSlice 37 (.int .i64 (n : Int)) (.int .i64 (n : Int))).run Tryd.prog w = .ok (.slice (some ⟨w.heap.size, 0, none⟩) n n) (w.alloc (.cells (madeCells zcells (n * 6)) 24)) := by
  obtain ⟨i, hi, hz0, hz1, hz2⟩ := info_parts Tryd.infoE
  have := run_make (P := Tryd.prog) w 37 24 i (.agg zcells) Tryd.underlying37 hi hz0 .i64 .i64 n n (by omega) (by omega) (by rw [hz2]; omega) (by omega)
  rw [hz1] at this
  simpa [Value.cells] using this
section
variable (w : World) (o1 o2 o3 : Obj)
theorem h3c : (((w.alloc o1).alloc o2).alloc o3).drew.heap[w.heap.size + 1 + 1]? = some o3 := by
  have h := heap_alloc_new ((w.alloc o1).alloc o2) o3
  rw [show ((w.alloc o1).alloc o2).heap.size = w.heap.size + 1 + 1 by simp] at h; exact h
theorem h3b : (((w.alloc o1).alloc o2).alloc o3).drew.heap[w.heap.size + 1]? = some o2 := by
  have h := heap_alloc_new (w.alloc o1) o2
  rw [show (w.alloc o1).heap.size = w.heap.size + 1 by simp] at h
  exact (Below.heap_alloc ((w.alloc o1).alloc o2) o3 (w.heap.size + 1) (by simp)).trans h
theorem h3a : (((w.alloc o1).alloc o2).alloc o3).drew.heap[w.heap.size]? = some o1 :=
  ((Below.heap_alloc ((w.alloc o1).alloc o2) o3 w.heap.size (by simp; omega)).trans (Below.heap_alloc (w.alloc o1) o2 w.heap.size (by simp))).trans (heap_alloc_new w o1)
theorem h3below : Below w.heap.size w (((w.alloc o1).alloc o2).alloc o3).drew :=
  ((((Below.refl _ w).alloc (Nat.le_refl _) o1).alloc (by simp) o2).alloc (by simp; omega) o3).drew
end
theorem blk_lt' {w : World} {p : Nat} {o : Obj} (h : w.heap[p]? = some o) : p < w.heap.size := by
  by_cases hp : p < w.heap.size
  · exact hp
  · rw [Array.getElem?_eq_none (by omega)] at h; cases h
theorem ints_cell {w : World} {b n : Nat} {fr : Nat × Nat} (h : w.heap[b]? = some (.cells (madeCells #[Value.int .i64 0] n) 3 fr)) : ∀ i, i < (List.replicate n (0 : Int)).length → ∃ a, some (⟨b, 0, none⟩ : Addr) = some a ∧ w.cell? (a.add i) = some (.int .i64 ((List.replicate n (0 : Int)).getD i 0)) := by
  intro i hi
  rw [List.length_replicate] at hi
  refine ⟨_, rfl, ?_⟩
  rw [Addr.add_lit, Nat.zero_add, cell_of_block h]
  have e : (madeCells #[Value.int .i64 0] n)[i]? = (List.replicate n (Value.int .i64 0))[i]? := by rw [← toList_madeCells_one]; simp
  rw [e, List.getElem?_replicate, if_pos hi, List.getD_eq_getElem?_getD, List.getElem?_replicate, if_pos hi]; rfl
theorem ints_zero {w : World} {b n base : Nat} {fr : Nat × Nat} (h : w.heap[b]? = some (.cells (madeCells #[Value.int .i64 0] n) 3 fr)) : Ints base [5, 105] w (some ⟨b, 0, none⟩) (List.replicate n 0) := by
  intro i hi
  obtain ⟨a, e, hc⟩ := ints_cell h i hi
  cases e
  exact ⟨_, rfl, hc, Or.inr ⟨_, _, _, h, by decide⟩⟩
theorem made_get (n i j : Nat) (hi : i < n) (hj : j < 6) : (madeCells zcells (n * 6))[i * 6 + j]? = zcells[j]? := by
  have h1 : i * 6 + j < n * 6 := by omega
  have h2 : (i * 6 + j) % 6 = j := by omega
  unfold madeCells
  rw [Array.getElem?_map, Array.getElem?_eq_getElem (by simpa using h1)]
  simp only [Array.getElem_range, Option.map_some]
  have hs : zcells.size = 6 := rfl
  rw [hs, h2, getElem!_pos zcells j (by rw [hs]; exact hj), Array.getElem?_eq_getElem (by rw [hs]; exact hj)]
theorem ents_zero {w : World} {b n base : Nat} {fr : Nat × Nat} (h : w.heap[b]? = some (.cells (madeCells zcells (n * 6)) 24 fr)) : Ents base [5, 105] w (some ⟨b, 0, none⟩) (List.replicate n zeroE) := by
  intro i hi
  rw [List.length_replicate] at hi
  have eg : (List.replicate n zeroE).getD i default = zeroE := by rw [List.getD_eq_getElem?_getD, List.getElem?_replicate, if_pos hi]; rfl
  have hc : ∀ j, j < 6 → w.cell? ⟨b, i * 6 + j, none⟩ = zcells[j]? := fun j hj => by rw [cell_of_block h]; exact made_get n i j hi hj
  rw [eg]
  refine ⟨b, 0, none, 0, rfl, ?_, ?_, ?_, ?_, ?_, ?_, ?_, by decide, Or.inr ⟨_, _, _, h, by decide⟩⟩
  · rw [Nat.zero_add]; exact hc 0 (by decide)
  · rw [Nat.zero_add]; exact hc 1 (by decide)
  · rw [Nat.zero_add]; exact hc 2 (by decide)
  · rw [Nat.zero_add]; exact hc 3 (by decide)
  · rw [Nat.zero_add]; exact hc 4 (by decide)
  · rw [Nat.zero_add]; exact hc 5 (by decide)
  · intro i hi; simp [zeroE] at hi
end Go.Proofs.YthjpdglbliigcaaDoor
