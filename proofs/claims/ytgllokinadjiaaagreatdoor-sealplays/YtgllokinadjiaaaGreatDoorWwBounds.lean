/- WireBounds: what is refused, by numbers alone; rows of zeros. wire's reader: integer, ruled, text: contracts by what they do to the place and to the first flaw. wire's reader: text, list: contracts. wire's reader: entry, config: contracts. -/
import Derived.Test.YtgllokinadjiaaaGreatDoorWwWriterG
import Derived.Laws.BytesArg
import Derived.Deep.OwnRows
import Derived.Test.YtgllokinadjiaaaGreatDoorWwReader
import Derived.Test.YtgllokinadjiaaaGreatDoorWwWriterE
namespace Go.Proofs.YtgllokinadjiaaaGreatDoor.Ww
open Go.RowKit

theorem putRule_err (q : Nat) (n : Int) (s : List Nat × Nat) : (putRule q n s).2 = if s.2 ≠ 0 then s.2 else refuse q n := by
  unfold putRule
  by_cases h : s.2 ≠ 0
  · rw [if_pos h, if_pos h]
  · rw [if_neg h, if_neg h]
    by_cases h2 : refuse q n ≠ 0
    · rw [if_pos h2]
    · rw [if_neg h2]; simp at h2; simp [h2]
theorem putList_err (q : Nat) (ys : List Int) (s : List Nat × Nat) : (putList q ys s).2 = if s.2 ≠ 0 then s.2 else refuse q ys.length := by
  unfold putList
  by_cases h : s.2 = 0 ∧ refuse q ys.length = 0
  · rw [if_pos h, if_neg (by simp [h.1]), h.2]
  · rw [if_neg h]; exact putRule_err q _ s
theorem putText_err (t : ByteArray) (s : List Nat × Nat) : (putText t s).2 = if s.2 ≠ 0 then s.2 else refuse 4 t.size := by
  unfold putText
  by_cases h : s.2 = 0 ∧ refuse 4 t.size = 0
  · rw [if_pos h, if_neg (by simp [h.1]), h.2]
  · rw [if_neg h]; exact putRule_err 4 _ s
theorem putInts_err (ys : List Int) (s : List Nat × Nat) : (putInts ys s).2 = s.2 := rfl
/-- the first of some numbers that is not 0. -/
def firstOf : List Nat → Nat
  | [] => 0
  | x :: l => if x ≠ 0 then x else firstOf l
theorem putEntry_err (kind client seq : Int) (t : ByteArray) (ys : List Int) (to' : Int) (s : List Nat × Nat) : (putEntry kind client seq t ys to' s).2 = firstOf [s.2, refuse 0 kind, refuse 4 t.size, refuse 5 ys.length, refuse 1 to'] := by
  unfold putEntry
  rw [putRule_err, putList_err, putText_err, putInts_err, putRule_err]
  simp only [firstOf]
  by_cases h0 : s.2 = 0 <;> by_cases h1 : refuse 0 kind = 0 <;> by_cases h2 : refuse 4 (t.size : Int) = 0 <;> by_cases h3 : refuse 5 (ys.length : Int) = 0 <;> by_cases h4 : refuse 1 to' = 0 <;> simp [h0, h1, h2, h3, h4]
/-- an entry of zeros. -/
def zeroE : En := ⟨0, 0, 0, ByteArray.empty, [], 0⟩
theorem putE_zero (s : List Nat × Nat) : (putE zeroE s).2 = s.2 := by
  unfold putE zeroE
  rw [putEntry_err]
  have e : ∀ x, firstOf [x, refuse 0 0, refuse 4 (ByteArray.empty.size : Int), refuse 5 ((([] : List Int).length : Nat) : Int), refuse 1 0] = x := by
    intro x
    have h0 : refuse 0 0 = 0 := by decide
    have h1 : refuse 4 (ByteArray.empty.size : Int) = 0 := by decide
    have h2 : refuse 5 ((([] : List Int).length : Nat) : Int) = 0 := by decide
    have h3 : refuse 1 0 = 0 := by decide
    simp only [firstOf, h0, h1, h2, h3]
    by_cases hx : x = 0 <;> simp [hx]
  exact e s.2
theorem putEs_zero (n : Nat) : ∀ s : List Nat × Nat, (putEs (List.replicate n zeroE) s).2 = s.2 := by
  induction n with
  | zero => intro s; rfl
  | succ n ih => intro s; rw [List.replicate_succ]; show (putEs (List.replicate n zeroE) (putE zeroE s)).2 = _; rw [ih, putE_zero]
theorem putEntries_zero (n : Nat) (s : List Nat × Nat) : (putEntries (List.replicate n zeroE) s).2 = if s.2 ≠ 0 then s.2 else refuse 6 n := by
  unfold putEntries
  rw [List.length_replicate]
  by_cases h : s.2 = 0 ∧ refuse 6 n = 0
  · rw [if_pos h, if_neg (by simp [h.1]), putEs_zero, putRule_err, if_neg (by simp [h.1])]
  · rw [if_neg h]; exact putRule_err 6 _ s
theorem putMsg_err (kind : Int) (terms : List Int) (n : Nat) : (putMsg 0 0 0 kind 0 0 0 0 false terms (List.replicate n zeroE) [] [] ([], 0)).2 = firstOf [refuse 2 kind, refuse 6 terms.length, refuse 6 n] := by
  unfold putMsg putConfig
  rw [putList_err, putList_err, putEntries_zero, putList_err, putRule_err, putInts_err, putRule_err, putInts_err]
  have h3 : refuse 3 (bitOf false) = 0 := by decide
  have h5 : refuse 5 ((([] : List Int).length : Nat) : Int) = 0 := by decide
  rw [h3, h5]
  simp only [firstOf]
  by_cases h1 : refuse 2 kind = 0 <;> by_cases h2 : refuse 6 (terms.length : Int) = 0 <;> by_cases h4 : refuse 6 (n : Int) = 0 <;> simp [h1, h2, h4]
theorem putConfig_err (n : Nat) : (putConfig [] (List.replicate n 0) ([], 0)).2 = refuse 5 n := by
  unfold putConfig
  rw [putList_err, putList_err, List.length_replicate]
  have h5 : refuse 5 ((([] : List Int).length : Nat) : Int) = 0 := by decide
  rw [h5]; simp

/-- bytes as a string. -/
def str (bs : List Nat) : ByteArray := strOfNums (bs.map Int.ofNat)
theorem conv_str {w : World} {ao : Option Addr} {n cap : Nat} {bs : List Nat} (hb : Bytes w ao bs) (hn : bs.length = n) :
    (convert 53 9 (.slice ao n cap)).run Tryz.prog w = .ok (.string (str bs)) w := by
  subst hn
  cases ao with
  | none =>
    obtain rfl := hb.none_nil
    exact run_convert_bytes_nil w 53 5 Tryz.underlying53 Tryz.underlying5 _ _ 9 Tryz.underlying9
  | some a =>
    have hl : (loadCells a bs.length).run Tryz.prog w = .ok ((bs.map Int.ofNat).map (Value.int .u8)).toArray w := by
      have := run_loadCells_list (P := Tryz.prog) w a ((bs.map Int.ofNat).map (Value.int .u8)) (fun j v hj => hb.news j v (by simpa [u8s] using hj))
      simpa using this
    rw [run_convert_bytes_string w 53 9 5 _ _ cap Tryz.underlying53 Tryz.underlying5 Tryz.underlying9, run_bytesToString w _ _ cap (bs.map Int.ofNat) hl, foldl_push_bytes]
    simp [str, strOfNums, ByteArray.empty, ByteArray.emptyWithCapacity]
    rfl
theorem str_size (bs : List Nat) : (str bs).size = bs.length := by simp [str, strOfNums, ByteArray.size]
/-- zeros. -/
def zeros (n : Nat) : List Nat := List.replicate n 0
theorem zeros_cells (n : Nat) : (madeCells #[Value.int .u8 0] n).toList = u8s (zeros n) := by rw [toList_madeCells_one, zeros, u8s, List.map_replicate]; rfl
theorem zeros_at {w : World} {b n : Nat} {fr : Nat × Nat} (h : w.heap[b]? = some (.cells (madeCells #[Value.int .u8 0] n) 5 fr)) : Bytes w (some ⟨b, 0, none⟩) (zeros n) := by
  refine ⟨fun x hx => by have := List.eq_of_mem_replicate hx; omega, fun i hi => ⟨_, rfl, ?_⟩⟩
  rw [Addr.add_lit]
  simp only [World.cell?, h, Nat.zero_add]
  have e : (madeCells #[Value.int .u8 0] n)[i]? = (u8s (zeros n))[i]? := by rw [← zeros_cells]; simp
  rw [e, u8s, List.getElem?_map, List.getD_eq_getElem?_getD, List.getElem?_eq_getElem hi]; rfl
theorem Tryz.info3 : (Tryz.prog.info? 3).map (fun i => (i.zero, i.size, i.bytes)) = some (some (.int .i64 0), 1, 8) := by kernel_rfl
theorem make_bytes (n : Nat) (h : n ≤ 1000000) (w : World) : (Instr.makeSlice 53 (.int .i64 (n : Int)) (.int .i64 (n : Int))).run Tryz.prog w = .ok (.slice (some ⟨w.heap.size, 0, none⟩) n n) (w.alloc (.cells (madeCells #[.int .u8 0] n) 5)) :=
  run_make_row' 53 5 (.int .u8 0) 1 Tryz.underlying53 Tryz.info5 rfl .i64 .i64 n (by omega) (by omega) w
theorem make_ints (n : Nat) (h : n ≤ 1000000) (w : World) : (Instr.makeSlice 22 (.int .i64 (n : Int)) (.int .i64 (n : Int))).run Tryz.prog w = .ok (.slice (some ⟨w.heap.size, 0, none⟩) n n) (w.alloc (.cells (madeCells #[.int .i64 0] n) 3)) :=
  run_make_row' 22 3 (.int .i64 0) 8 Tryz.underlying22 Tryz.info3 rfl .i64 .i64 n (by omega) (by omega) w
/-- the cells of an entry of zeros. -/
def zcells : Array Value := #[.int .i64 0, .int .i64 0, .int .i64 0, .string ByteArray.empty, .slice none 0 0, .int .i64 0]
section
variable (w : World) (o1 o2 o3 : Obj)
theorem h3c : (((w.alloc o1).alloc o2).alloc o3).drew.heap[w.heap.size + 1 + 1]? = some o3 := by
  have h := heap_alloc_new ((w.alloc o1).alloc o2) o3
  rw [show ((w.alloc o1).alloc o2).heap.size = w.heap.size + 1 + 1 by simp] at h; exact h
theorem h3b : (((w.alloc o1).alloc o2).alloc o3).drew.heap[w.heap.size + 1]? = some o2 := by
  have h := heap_alloc_new (w.alloc o1) o2
  rw [show (w.alloc o1).heap.size = w.heap.size + 1 by simp] at h
  exact (Below.heap_alloc ((w.alloc o1).alloc o2) o3 (w.heap.size + 1) (by simp)).trans h
theorem h3a : (((w.alloc o1).alloc o2).alloc o3).drew.heap[w.heap.size]? = some o1 :=
  ((Below.heap_alloc ((w.alloc o1).alloc o2) o3 w.heap.size (by simp; omega)).trans (Below.heap_alloc (w.alloc o1) o2 w.heap.size (by simp))).trans (heap_alloc_new w o1)
theorem h3below : Below w.heap.size w (((w.alloc o1).alloc o2).alloc o3).drew :=
  ((((Below.refl _ w).alloc (Nat.le_refl _) o1).alloc (by simp) o2).alloc (by simp; omega) o3).drew
end
theorem blk_lt' {w : World} {p : Nat} {o : Obj} (h : w.heap[p]? = some o) : p < w.heap.size := by
  by_cases hp : p < w.heap.size
  · exact hp
  · rw [Array.getElem?_eq_none (by omega)] at h; cases h
theorem ints_cell {w : World} {b n : Nat} {fr : Nat × Nat} (h : w.heap[b]? = some (.cells (madeCells #[Value.int .i64 0] n) 3 fr)) : ∀ i, i < (List.replicate n (0 : Int)).length → ∃ a, some (⟨b, 0, none⟩ : Addr) = some a ∧ w.cell? (a.add i) = some (.int .i64 ((List.replicate n (0 : Int)).getD i 0)) := by
  intro i hi
  rw [List.length_replicate] at hi
  refine ⟨_, rfl, ?_⟩
  rw [Addr.add_lit, Nat.zero_add, cell_of_block h]
  have e : (madeCells #[Value.int .i64 0] n)[i]? = (List.replicate n (Value.int .i64 0))[i]? := by rw [← toList_madeCells_one]; simp
  rw [e, List.getElem?_replicate, if_pos hi, List.getD_eq_getElem?_getD, List.getElem?_replicate, if_pos hi]; rfl
theorem ints_zero {w : World} {b n base : Nat} {fr : Nat × Nat} (h : w.heap[b]? = some (.cells (madeCells #[Value.int .i64 0] n) 3 fr)) : Ints base [5, 117] w (some ⟨b, 0, none⟩) (List.replicate n 0) := by
  intro i hi
  obtain ⟨a, e, hc⟩ := ints_cell h i hi
  cases e
  exact ⟨_, rfl, hc, Or.inr ⟨_, _, _, h, by decide⟩⟩
theorem made_get (n i j : Nat) (hi : i < n) (hj : j < 6) : (madeCells zcells (n * 6))[i * 6 + j]? = zcells[j]? := by
  have h1 : i * 6 + j < n * 6 := by omega
  have h2 : (i * 6 + j) % 6 = j := by omega
  unfold madeCells
  rw [Array.getElem?_map, Array.getElem?_eq_getElem (by simpa using h1)]
  simp only [Array.getElem_range, Option.map_some]
  have hs : zcells.size = 6 := rfl
  rw [hs, h2, getElem!_pos zcells j (by rw [hs]; exact hj), Array.getElem?_eq_getElem (by rw [hs]; exact hj)]
end Go.Proofs.YtgllokinadjiaaaGreatDoor.Ww
namespace Go.Proofs.YtgllokinadjiaaaGreatDoor.Ww
open Go.RowKit

/-- the bytes that a reader reads. -/
structure Src (base : Nat) (w : World) (ao : Option Addr) (n m : Nat) (bs : List Nat) : Prop where
  len : bs.length = n
  room : n ≤ m
  nul : ao = none → m = 0
  big : n ≤ 1000000000000
  stay : ∀ w', Only base [167] w w' → Bytes w' ao bs
theorem Src.only {base : Nat} {w w' : World} {ao : Option Addr} {n m : Nat} {bs : List Nat} (h : Src base w ao n m bs) (ho : Only base [167] w w') : Src base w' ao n m bs :=
  ⟨h.len, h.room, h.nul, h.big, fun w2 h2 => h.stay w2 (ho.trans h2)⟩

theorem taken_le (bs : List Nat) (k : Nat) (s : Nat × Nat) : (taken bs k s).length ≤ k := by
  unfold taken; split
  · rw [List.length_take]; omega
  · simp
theorem taken_one (bs : List Nat) (s : Nat × Nat) (h : ∀ x ∈ taken bs 1 s, x < 256) : joinTo 0 (taken bs 1 s) < 256 := by
  have hl := taken_le bs 1 s
  generalize taken bs 1 s = l at *
  match l with
  | [] => simp [joinTo]
  | [x] => have := h x (by simp); simp [joinTo]; exact this
  | _ :: _ :: _ => simp at hl
theorem joined_n (ao : Option Addr) (n cap : Nat) (bs : List Nat) (hn : bs.length = n) (w : World) (hb : Bytes w ao bs) (hl : n ≤ 140737488355328) :
    Calls Tryz.prog 91 #[.slice ao n cap] w fun e w' => e = .returned (.int .u64 ((joinTo 0 bs : Nat) : Int)) ∧ w' = w := by
  subst hn
  cases ao with
  | none => exact joined_none cap bs w hb
  | some a => exact joined_some a cap bs w hb hl

/-- what integer answers. -/
def rint (bs : List Nat) (s : Nat × Nat) : Int := wrap64 ((joinTo 0 (taken bs 8 s) : Nat) : Int)

set_option maxHeartbeats 1000000 in
theorem integer_any (base p : Nat) (ao : Option Addr) (n cap : Nat) (s : Nat × Nat) (bs : List Nat) (w : World) (h : Re base w p ao n cap s.1 s.2) (hs : Src base w ao n cap bs) (hbase : base ≤ w.heap.size) :
    Calls Tryz.prog 90 #[.pointer (some ⟨p, 0, none⟩)] w fun e w' => e = .returned (.int .i64 (rint bs s)) ∧ Re base w' p ao n cap (rtake n 8 s).1 (rtake n 8 s).2 ∧ Only base [167] w w' := by
  have T := hide (take_any base p ao n cap s.1 s.2 bs hs.len 8 w h hbase hs.stay hs.room hs.nul hs.big (by decide))
  clear h hs
  go_enter Tryz.func90, Tryz.ntmps90
  go_wp2_with fail
  refine (unhide T).mono ?_
  rintro e w1 ⟨ao1, m1, cap1, rfl, l1, b1, _, c1, r1, k1⟩
  have hm := taken_le bs 8 (s.1, s.2)
  rw [l1] at hm
  have J := hide (joined_n ao1 m1 cap1 _ l1 w1 b1 (by omega))
  have R1 := hide r1
  have K1 := hide k1
  clear r1 k1 l1 b1 T
  go_wp2_with fail
  refine (unhide J).mono ?_
  rintro e w2 ⟨rfl, rfl⟩
  clear J
  go_wp2
  go_ret
  exact ⟨rfl, unhide R1, unhide K1⟩

/-- what ruled answers, and does. -/
def rrule (bs : List Nat) (q : Nat) (s : Nat × Nat) : Nat × (Nat × Nat) :=
  if refuse q (joinTo 0 (taken bs 1 s) : Nat) = 0 then (joinTo 0 (taken bs 1 s), rtake bs.length 1 s)
  else (0, ((rtake bs.length 1 s).1, if (rtake bs.length 1 s).2 = 0 then refuse q (joinTo 0 (taken bs 1 s) : Nat) else (rtake bs.length 1 s).2))

set_option maxHeartbeats 1000000 in
theorem druled_any (base p q : Nat) (hq : q < 7) (ao : Option Addr) (n cap : Nat) (s : Nat × Nat) (bs : List Nat) (w : World) (h : Re base w p ao n cap s.1 s.2) (hs : Src base w ao n cap bs) (hbase : base ≤ w.heap.size) :
    Calls Tryz.prog 89 #[.pointer (some ⟨p, 0, none⟩), .int .i64 q] w fun e w' => e = .returned (.int .i64 ((rrule bs q s).1 : Nat)) ∧ Re base w' p ao n cap (rrule bs q s).2.1 (rrule bs q s).2.2 ∧ Only base [167] w w' := by
  have T := hide (take_any base p ao n cap s.1 s.2 bs hs.len 1 w h hbase hs.stay hs.room hs.nul hs.big (by decide))
  have hbig := hs.big
  have e0 : bs.length = n := hs.len
  have e1 : rrule bs q s = if refuse q (joinTo 0 (taken bs 1 s) : Nat) = 0 then (joinTo 0 (taken bs 1 s), rtake n 1 s) else (0, ((rtake n 1 s).1, if (rtake n 1 s).2 = 0 then refuse q (joinTo 0 (taken bs 1 s) : Nat) else (rtake n 1 s).2)) := by unfold rrule; rw [e0]
  have E1 := hide e1
  clear h hs e0 e1
  go_enter Tryz.func89, Tryz.ntmps89
  go_wp2_with fail
  refine (unhide T).mono ?_
  rintro e w1 ⟨ao1, m1, cap1, rfl, l1, b1, _, c1, r1, k1⟩
  have hm := taken_le bs 1 (s.1, s.2)
  rw [l1] at hm
  have hv := taken_one bs (s.1, s.2) b1.1
  have J := hide (joined_n ao1 m1 cap1 _ l1 w1 b1 (by omega))
  have hsz := k1.size
  have R1 := hide r1
  have K1 := hide k1
  obtain ⟨ev1, hp1, hbp1, _, hpos1⟩ := r1
  have c1' : w1.cell? ⟨p, 1, none⟩ = some (.int .i64 (((rtake n 1 (s.1, s.2)).1 : Nat) : Int)) := (cell_of_block hp1).trans rfl
  clear k1 l1 b1 T hp1
  change Hid (rrule bs q s = if refuse q (joinTo 0 (taken bs 1 (s.1, s.2)) : Nat) = 0 then (joinTo 0 (taken bs 1 (s.1, s.2)), rtake n 1 (s.1, s.2)) else (0, ((rtake n 1 (s.1, s.2)).1, if (rtake n 1 (s.1, s.2)).2 = 0 then refuse q (joinTo 0 (taken bs 1 (s.1, s.2)) : Nat) else (rtake n 1 (s.1, s.2)).2))) at E1
  generalize rtake n 1 (s.1, s.2) = t at *
  generalize joinTo 0 (taken bs 1 (s.1, s.2)) = v at *
  obtain ⟨t1, t2⟩ := t
  go_wp2_with fail
  refine (unhide J).mono ?_
  rintro e w2 ⟨rfl, rfl⟩
  clear J
  go_wp2_with fail
  refine (refusal_any q hq (v : Int) w2).mono ?_
  rintro e w3 ⟨rfl, rfl⟩
  obtain ⟨rf, hrf⟩ : ∃ rf, refuse q (v : Int) = rf := ⟨_, rfl⟩
  rw [hrf] at E1 ⊢
  clear hrf
  by_cases hr : rf = 0
  · subst hr
    have e2 := unhide E1
    rw [if_pos rfl] at e2
    have E2 := hide e2
    clear E1 e2
    go_wp2
    go_ret
    rw [unhide E2]
    exact ⟨rfl, unhide R1, unhide K1⟩
  · have hri : ¬ (rf : Int) = 0 := by omega
    have e2 := unhide E1
    rw [if_neg hr] at e2
    have E2 := hide e2
    have HR := hide hr
    clear hr E1 e2
    go_wp2_with fail
    refine (fail_any base p ao n cap t1 t2 _ rf (unhide HR) w3 (unhide R1) (Nat.le_trans hbase hsz)).mono ?_
    rintro e w4 ⟨rfl, r4, k4⟩
    have R4 := hide r4
    have K4 := hide k4
    clear r4 k4
    go_wp2
    go_ret
    rw [unhide E2]
    exact ⟨rfl, unhide R4, (unhide K1).trans (unhide K4)⟩

/-- what text answers, and does. -/
def rtext (bs : List Nat) (s : Nat × Nat) : List Nat × (Nat × Nat) := (taken bs (rrule bs 4 s).1 (rrule bs 4 s).2, rtake bs.length (rrule bs 4 s).1 (rrule bs 4 s).2)
theorem rrule_le (bs : List Nat) (q : Nat) (s : Nat × Nat) : (rrule bs q s).1 ≤ 64 := by
  unfold rrule
  split
  · rename_i h; have := (refuse_range h).2; simp only; omega
  · simp
/-- a reader that is under way since w0. -/
def Rg (base : Nat) (w0 w : World) (p : Nat) (ao : Option Addr) (n cap : Nat) (bs : List Nat) (s : Nat × Nat) : Prop :=
  Re base w p ao n cap s.1 s.2 ∧ Src base w ao n cap bs ∧ base ≤ w.heap.size ∧ Only base [167] w0 w
theorem Rg.next {base : Nat} {w0 w w' : World} {p : Nat} {ao : Option Addr} {n cap : Nat} {bs : List Nat} {s s' : Nat × Nat} (h : Rg base w0 w p ao n cap bs s) (hr : Re base w' p ao n cap s'.1 s'.2) (hk : Only base [167] w w') : Rg base w0 w' p ao n cap bs s' :=
  ⟨hr, h.2.1.only hk, Nat.le_trans h.2.2.1 hk.size, h.2.2.2.trans hk⟩
theorem Only.fresh {base : Nat} {ts : List TypeId} {w w2 w3 : World} (h : Only base ts w w2) (hb : Below w.heap.size w2 w3) (hbase : base ≤ w.heap.size) : Only base ts w w3 := by
  refine ⟨h.1.trans (hb.mono hbase), fun k hk hn => ?_⟩
  rw [hb.block k hk]; exact h.2 k hk hn
end Go.Proofs.YtgllokinadjiaaaGreatDoor.Ww
namespace Go.Proofs.YtgllokinadjiaaaGreatDoor.Ww
open Go.RowKit

/-- what list's loop makes in k rounds. -/
def rlistN (bs : List Nat) : Nat → (Nat × Nat) → List Int × (Nat × Nat)
  | 0, s => ([], s)
  | k + 1, s => ((rlistN bs k s).1 ++ [rint bs (rlistN bs k s).2], rtake bs.length 8 (rlistN bs k s).2)
theorem rlistN_len (bs : List Nat) (k : Nat) (s : Nat × Nat) : (rlistN bs k s).1.length = k := by
  induction k with
  | zero => rfl
  | succ k ih => simp [rlistN, ih]
/-- what list answers, and does. -/
def rlist (bs : List Nat) (q : Nat) (s : Nat × Nat) : List Int × (Nat × Nat) := rlistN bs (rrule bs q s).1 (rrule bs q s).2
def i64s (ys : List Int) : List Value := ys.map (Value.int .i64)
theorem one_int (a : Int) : ∀ u ∈ [Value.int .i64 a], u.oneCell' = true := by intro u hu; simp only [List.mem_cons, List.not_mem_nil, or_false] at hu; subst hu; rfl
theorem Tryz.info_int : (Tryz.prog.info? 3).map (fun i => (i.zero, i.size, i.bytes)) = some (some (.int .i64 0), 1, 8) := by kernel_rfl
theorem Re.own {base b : Nat} {w w' : World} {p : Nat} {ao : Option Addr} {n cap pos er : Nat} (h : Re base w p ao n cap pos er) {ts : List TypeId} (hk : Only b ts w w') (h1 : 167 ∉ ts) (h2 : 155 ∉ ts) : Re base w' p ao n cap pos er := by
  obtain ⟨ev, hp, hb, he, hpos⟩ := h
  exact ⟨ev, by rw [hk.block hp h1], hb, he.only hk h2, hpos⟩

set_option maxHeartbeats 2000000 in
theorem dlist_any (base p q : Nat) (hq : q < 7) (ao : Option Addr) (n cap : Nat) (s : Nat × Nat) (bs : List Nat) (w : World) (h : Re base w p ao n cap s.1 s.2) (hs : Src base w ao n cap bs) (hbase : base ≤ w.heap.size) :
    Calls Tryz.prog 87 #[.pointer (some ⟨p, 0, none⟩), .int .i64 q] w fun e w' => ∃ v, e = .returned v ∧ w'.ownsRow w.heap.size 3 1 v (rlist bs q s).1.length (i64s (rlist bs q s).1) ∧ Re base w' p ao n cap (rlist bs q s).2.1 (rlist bs q s).2.2 ∧ Only base [167] w w' := by
  have U := hide (druled_any base p q hq ao n cap s bs w h hs hbase)
  have HS := hide hs
  have hk := rrule_le bs q s
  have E1 : Hid (rlist bs q s = rlistN bs (rrule bs q s).1 (rrule bs q s).2) := by show _ = _; rfl
  have HN : Hid (bs.length = n) := hs.len
  clear h hs
  generalize rrule bs q s = r at *
  obtain ⟨k, t⟩ := r
  obtain ⟨i0, hi, hz0, hz1, hz2⟩ := info_parts Tryz.info_int
  go_enter Tryz.func87, Tryz.ntmps87
  go_wp2_with fail
  refine (unhide U).mono ?_
  rintro e w1 ⟨rfl, r1, k1⟩
  have R1 := hide r1
  have K1 := hide k1
  have s1 : w.heap.size ≤ w1.heap.size := k1.size
  clear U r1 k1
  go_wp2_with fail
  go_loopg [5, 9] k (fun g lv iv wr => ∃ j : Nat, j + g = k ∧ iv = .int .i64 (j : Int) ∧ wr.ownsRow w.heap.size 3 1 lv j (i64s (rlistN bs j t).1) ∧ Re base wr p ao n cap (rlistN bs j t).2.1 (rlistN bs j t).2.2 ∧ Only base [167] w wr)
  case atStart => exact ⟨0, by omega, rfl, World.ownsRow_nil _ _ _ _, unhide R1, unhide K1⟩
  case round =>
    obtain ⟨j, hj, rfl, ho, hr, hon⟩ := hrel
    have HJ := hide hj
    have HO := hide ho
    have HON := hide hon
    have sr : w.heap.size ≤ wr.heap.size := hon.size
    have hjk : j ≤ k := by omega
    by_cases hlt : j < k
    · have I := hide (integer_any base p ao n cap (rlistN bs j t).2 bs wr hr ((unhide HS).only hon) (Nat.le_trans hbase sr))
      have ER : Hid (rlistN bs (j + 1) t = ((rlistN bs j t).1 ++ [rint bs (rlistN bs j t).2], rtake n 8 (rlistN bs j t).2)) := by show _ = _; rw [rlistN, unhide HN]
      clear hj ho hr hon
      generalize rint bs (rlistN bs j t).2 = y at *
      generalize rtake n 8 (rlistN bs j t).2 = u at *
      generalize (rlistN bs j t).1 = ys at *
      go_wp2_with fail
      refine (unhide I).mono ?_
      rintro e w2 ⟨rfl, r2, k2⟩
      have O2 := hide (own_only (unhide HO) k2 (by decide))
      have R2 := hide r2
      have K2 := hide ((unhide HON).trans k2)
      have s2 : w.heap.size ≤ w2.heap.size := Nat.le_trans sr k2.size
      clear I r2 k2 HO HON
      go_wp2_with (at_builtin; refine wpList_append_own _ rfl (.tmp 11) (.tmp 14) 22 rfl w.heap.size 3 i0 (.int .i64 0) 1 8 Tryz.underlying22 hi hz0 hz1 hz2 rfl (by decide) _ _ _ rfl ((unhide O2).alloc _) ⟨w2.heap.size, 0, none⟩ 1 1 _ rfl rfl news_at (one_int _) (by unfold maxLen; omega) (by omega) (by simp; omega) ?_)
      intro v3 w3 own3 grow3 _
      have p3 := (Only.refl w.heap.size [3] w2).alloc s2 (.cells #[.int .i64 y] 3)
      have p4 := p3.own ((unhide O2).alloc _) grow3 (by simp; omega) (Nat.le_refl _) (by simp)
      have R3 := hide ((unhide R2).own p4 (by decide) (by decide))
      have O3 := hide own3
      have K3 := hide ((unhide K2).fresh p4.below hbase)
      clear own3 grow3 p3 p4 R2 O2 K2
      go_wp2
      go_roundg (k - (j + 1))
      case measure => have := unhide HJ; omega
      case rel =>
        refine ⟨j + 1, by omega, by go_num, ?_, by rw [unhide ER]; exact unhide R3, unhide K3⟩
        rw [unhide ER]
        have h := unhide O3
        simp only [i64s, List.map_append, List.map_cons, List.map_nil] at h ⊢
        exact h
    · have ej : j = k := by omega
      subst ej
      have HR := hide hr
      clear hj ho hr hon
      go_wp2
      go_ret
      refine ⟨_, rfl, ?_, ?_, unhide HON⟩
      · rw [unhide E1]; simp only [rlistN_len]; exact unhide HO
      · rw [unhide E1]; exact unhide HR

/-! ### the same, of a reader under way -/
theorem rg_int {base : Nat} {w0 w : World} {p : Nat} {ao : Option Addr} {n cap : Nat} {bs : List Nat} {s : Nat × Nat} (h : Rg base w0 w p ao n cap bs s) :
    Calls Tryz.prog 90 #[.pointer (some ⟨p, 0, none⟩)] w fun e w' => e = .returned (.int .i64 (rint bs s)) ∧ Rg base w0 w' p ao n cap bs (rtake n 8 s) ∧ Only base [167] w w' := by
  refine (integer_any base p ao n cap s bs w h.1 h.2.1 h.2.2.1).mono ?_
  rintro e w' ⟨rfl, r, k⟩
  exact ⟨rfl, h.next r k, k⟩
theorem rg_rule {base : Nat} {w0 w : World} {p : Nat} {ao : Option Addr} {n cap : Nat} {bs : List Nat} {s : Nat × Nat} (q : Nat) (hq : q < 7) (h : Rg base w0 w p ao n cap bs s) :
    Calls Tryz.prog 89 #[.pointer (some ⟨p, 0, none⟩), .int .i64 q] w fun e w' => e = .returned (.int .i64 ((rrule bs q s).1 : Nat)) ∧ Rg base w0 w' p ao n cap bs (rrule bs q s).2 ∧ Only base [167] w w' := by
  refine (druled_any base p q hq ao n cap s bs w h.1 h.2.1 h.2.2.1).mono ?_
  rintro e w' ⟨rfl, r, k⟩
  exact ⟨rfl, h.next r k, k⟩
theorem rg_list {base : Nat} {w0 w : World} {p : Nat} {ao : Option Addr} {n cap : Nat} {bs : List Nat} {s : Nat × Nat} (q : Nat) (hq : q < 7) (h : Rg base w0 w p ao n cap bs s) :
    Calls Tryz.prog 87 #[.pointer (some ⟨p, 0, none⟩), .int .i64 q] w fun e w' => ∃ v, e = .returned v ∧ w'.ownsRow w.heap.size 3 1 v (rlist bs q s).1.length (i64s (rlist bs q s).1) ∧ Rg base w0 w' p ao n cap bs (rlist bs q s).2 ∧ Only base [167] w w' := by
  refine (dlist_any base p q hq ao n cap s bs w h.1 h.2.1 h.2.2.1).mono ?_
  rintro e w' ⟨v, rfl, o, r, k⟩
  exact ⟨v, rfl, o, h.next r k, k⟩
end Go.Proofs.YtgllokinadjiaaaGreatDoor.Ww
namespace Go.Proofs.YtgllokinadjiaaaGreatDoor.Ww
open Go.RowKit

/-- an entry, plainly. -/
structure Ent where
  kind : Int
  client : Int
  seq : Int
  data : List Nat
  members : List Int
  to' : Int
/-- what entry answers, and does. -/
def rentry (bs : List Nat) (s : Nat × Nat) : Ent × (Nat × Nat) :=
  let a := rrule bs 0 s
  let b := rtake bs.length 8 a.2
  let c := rtake bs.length 8 b
  let d := rtext bs c
  let m := rlist bs 5 d.2
  let t := rrule bs 1 m.2
  (⟨a.1, rint bs a.2, rint bs b, d.1, m.1, t.1⟩, t.2)
/-- the cells of an entry. -/
def Ent.cells (x : Ent) (v : Value) : Array Value := #[.int .i64 x.kind, .int .i64 x.client, .int .i64 x.seq, .string (str x.data), v, .int .i64 x.to']

theorem row_slice {w : World} {base : Nat} {e : TypeId} {z : Nat} {v : Value} {m : Nat} {vs : List Value} (h : w.ownsRow base e z v m vs) : ∃ ao cap, v = .slice ao m cap := by
  rcases h.2 with ⟨e1, h0⟩ | ⟨g, cap', cur, e1, _⟩
  · subst e1; exact ⟨none, 0, by simp_all⟩
  · exact ⟨_, _, e1⟩
theorem own_wide {w : World} {b b' : Nat} {e : TypeId} {z : Nat} {v : Value} {m : Nat} {vs : List Value} (h : w.ownsRow b e z v m vs) (hb : b' ≤ b) : w.ownsRow b' e z v m vs := by
  refine ⟨h.1, ?_⟩
  rcases h.2 with h | ⟨g, cap', cur, e1, h1, h2⟩
  · exact Or.inl h
  · exact Or.inr ⟨g, cap', cur, e1, Nat.le_trans hb h1, h2⟩
/-- one cell of a block of the call's own is set. -/
theorem set_one {base b : Nat} {ts : List TypeId} {a w : World} {cs : Array Value} {t : TypeId} {fr : Nat × Nat} (h : Only base ts a w ∧ w.heap[b]? = some (.cells cs t fr)) (hb : base ≤ b) (ht : t ∈ ts) (i : Nat) (u : Value) :
    Only base ts a (w.setCell ⟨b, i, none⟩ u) ∧ (w.setCell ⟨b, i, none⟩ u).heap[b]? = some (.cells (cs.setIfInBounds i u) t fr) :=
  ⟨h.1.setCell (p := ⟨b, i, none⟩) hb u h.2 ht, setCell_block h.2⟩
theorem Rg.start {base : Nat} {w : World} {p : Nat} {ao : Option Addr} {n cap : Nat} {bs : List Nat} {s : Nat × Nat} (h : Re base w p ao n cap s.1 s.2) (hs : Src base w ao n cap bs) (hbase : base ≤ w.heap.size) : Rg base w w p ao n cap bs s := ⟨h, hs, hbase, Only.refl _ _ _⟩
theorem Rg.alloc {base : Nat} {w0 w : World} {p : Nat} {ao : Option Addr} {n cap : Nat} {bs : List Nat} {s : Nat × Nat} (h : Rg base w0 w p ao n cap bs s) (o : Obj) : Rg base w0 (w.alloc o) p ao n cap bs s :=
  h.next (h.1.below ((Below.refl _ w).alloc (Nat.le_refl _) o)) (Only.of_below ((Below.refl _ w).alloc (Nat.le_refl _) o) h.2.2.1)

end Go.Proofs.YtgllokinadjiaaaGreatDoor.Ww
