/- wire's writer: an entry; EncodeEntry: contracts. -/
import Derived.Test.YtjcllplgiffmgaaDoorWriterE
namespace Go.Proofs.YtjcllplgiffmgaaDoor
open Go.RowKit

def putInts (ys : List Int) (s : List Nat × Nat) : List Nat × Nat := (s.1 ++ nums ys, s.2)
def putEntry (kind client seq : Int) (t : ByteArray) (ys : List Int) (to' : Int) (s : List Nat × Nat) : List Nat × Nat :=
  putRule 1 to' (putList 5 ys (putText t (putInts [client, seq] (putRule 0 kind s))))
theorem putText_len (t : ByteArray) (s : List Nat × Nat) : (putText t s).1.length ≤ s.1.length + 65 := by
  have := putRule_len 4 t.size s
  unfold putText; split
  · rename_i h
    have := (refuse_range h.2).2
    simp only [List.length_append, bytesOf_len]; omega
  · omega
theorem putList_len (q : Nat) (ys : List Int) (s : List Nat × Nat) : (putList q ys s).1.length ≤ s.1.length + 513 := by
  have := putRule_len q ys.length s
  unfold putList; split
  · rename_i h
    have := (refuse_range h.2).2
    simp only [List.length_append, nums_len]; omega
  · omega

set_option maxRecDepth 20000 in
set_option maxHeartbeats 1000000 in
theorem entry_any (base p : Nat) (s : List Nat × Nat) (kind client seq to' : Int) (t : ByteArray) (ht : t.size ≤ maxLen) (ao : Option Addr) (n cap : Nat) (ys : List Int) (hn : ys.length = n) (hl : s.1.length ≤ 800000000) (w : World) (h : Wr base w p s.1 s.2) (hy : Ints base [5, 105] w ao ys) (hbase : base ≤ w.heap.size) :
    Calls Tryd.prog 32 #[.pointer (some ⟨p, 0, none⟩), .agg #[.int .i64 kind, .int .i64 client, .int .i64 seq, .string t, .slice ao n cap, .int .i64 to']] w fun e w' => e = .returned (.tuple #[]) ∧ Wr base w' p (putEntry kind client seq t ys to' s).1 (putEntry kind client seq t ys to' s).2 ∧ Only base [5, 105] w w' := by
  have W0 := hide (h.below ((Below.refl _ w).alloc (Nat.le_refl _) (.cells #[.int .i64 kind, .int .i64 client, .int .i64 seq, .string t, .slice ao n cap, .int .i64 to'] 24)))
  have k0 : Only base [5, 105] w (w.alloc (.cells #[.int .i64 kind, .int .i64 client, .int .i64 seq, .string t, .slice ao n cap, .int .i64 to'] 24)) := (Only.refl _ _ _).alloc hbase _
  have K0 := hide k0
  have Y0 := hide (hy.only k0)
  have box0 := heap_alloc_new w (.cells #[.int .i64 kind, .int .i64 client, .int .i64 seq, .string t, .slice ao n cap, .int .i64 to'] 24)
  have X0 := hide box0
  have s0 : base ≤ (w.alloc (.cells #[.int .i64 kind, .int .i64 client, .int .i64 seq, .string t, .slice ao n cap, .int .i64 to'] 24)).heap.size := Nat.le_trans hbase k0.size
  have S0 := hide s0
  have HN := hide hn
  have HT := hide ht
  have l1 := putRule_len 0 kind s
  have L2 : Hid ((putInts [client, seq] (putRule 0 kind s)).1.length = (putRule 0 kind s).1.length + 16) := by show _ = _; unfold putInts; rw [List.length_append, nums_len]; rfl
  have L3 := hide (putText_len t (putInts [client, seq] (putRule 0 kind s)))
  have L4 := hide (putList_len 5 ys (putText t (putInts [client, seq] (putRule 0 kind s))))
  clear h hy k0 box0 s0 hn ht
  go_enter Tryd.func32, Tryd.ntmps32
  go_wp2_with fail
  refine (ruled_any base p 0 (by decide) s kind (by omega) _ (unhide W0) (unhide S0)).mono ?_
  rintro e w1 ⟨rfl, h1, k1⟩
  have x1 := k1.block (unhide X0) (by decide)
  have c1 : w1.cell? ⟨w.heap.size, 1, none⟩ = some (.int .i64 client) := (cell_of_block x1).trans rfl
  have c2 : w1.cell? ⟨w.heap.size, 2, none⟩ = some (.int .i64 seq) := (cell_of_block x1).trans rfl
  have s1 : base ≤ w1.heap.size := Nat.le_trans (unhide S0) k1.size
  have H1 := hide h1
  have X1 := hide x1
  have K1 := hide ((unhide K0).trans k1)
  have Y1 := hide ((unhide Y0).only k1)
  clear h1 x1 k1
  go_wp2_with fail
  have ki : Only base [5, 105] w1 (w1.alloc (.cells #[.int .i64 client, .int .i64 seq] 3)) := (Only.refl _ _ _).alloc s1 _
  have hin : Ints base [5, 105] (w1.alloc (.cells #[.int .i64 client, .int .i64 seq] 3)) (some ⟨w1.heap.size, 0, none⟩) [client, seq] := by
    intro i hi
    have hb := heap_alloc_new w1 (.cells #[.int .i64 client, .int .i64 seq] 3)
    refine ⟨_, rfl, ?_, Or.inr ⟨_, _, _, hb, by decide⟩⟩
    rw [Addr.add_lit, cell_of_block hb]
    have hi' : i = 0 ∨ i = 1 := by simp at hi; omega
    rcases hi' with rfl | rfl <;> rfl
  refine (ints_any base p _ _ (some ⟨w1.heap.size, 0, none⟩) 2 2 [client, seq] rfl _ ((unhide H1).below ((Below.refl _ _).alloc (Nat.le_refl _) _)) hin (Nat.le_trans s1 ki.size) (by omega)).mono ?_
  rintro e w2 ⟨rfl, h2, k2'⟩
  have k2 := ki.trans k2'
  have x2 := k2.block (unhide X1) (by decide)
  have d3 : w2.cell? ⟨w.heap.size, 3, none⟩ = some (.string t) := (cell_of_block x2).trans rfl
  have s2 : base ≤ w2.heap.size := Nat.le_trans s1 k2.size
  have H2 : Hid (Wr base w2 p (putInts [client, seq] (putRule 0 kind s)).1 (putInts [client, seq] (putRule 0 kind s)).2) := h2
  have X2 := hide x2
  have K2 := hide ((unhide K1).trans k2)
  have Y2 := hide ((unhide Y1).only k2)
  clear h2 x2 k2 k2' ki hin c1 c2
  go_wp2_with fail
  refine (text_any base p _ t (by have := unhide L2; omega) (unhide HT) w2 (unhide H2) s2).mono ?_
  rintro e w3 ⟨rfl, h3, k3⟩
  have x3 := k3.block (unhide X2) (by decide)
  have e4 : w3.cell? ⟨w.heap.size, 4, none⟩ = some (.slice ao n cap) := (cell_of_block x3).trans rfl
  have s3 : base ≤ w3.heap.size := Nat.le_trans s2 k3.size
  have H3 := hide h3
  have X3 := hide x3
  have K3 := hide ((unhide K2).trans k3)
  have Y3 := hide ((unhide Y2).only k3)
  clear h3 x3 k3 d3
  go_wp2_with fail
  refine (list_any base p 5 (by decide) _ ao n cap ys (unhide HN) (by have := unhide L2; have := unhide L3; omega) w3 (unhide H3) (unhide Y3) s3).mono ?_
  rintro e w4 ⟨rfl, h4, k4⟩
  have x4 := k4.block (unhide X3) (by decide)
  have g5 : w4.cell? ⟨w.heap.size, 5, none⟩ = some (.int .i64 to') := (cell_of_block x4).trans rfl
  have s4 : base ≤ w4.heap.size := Nat.le_trans s3 k4.size
  have H4 := hide h4
  have K4 := hide ((unhide K3).trans k4)
  clear h4 x4 k4 e4
  go_wp2_with fail
  refine (ruled_any base p 1 (by decide) _ to' (by have := unhide L2; have := unhide L3; have := unhide L4; omega) w4 (unhide H4) s4).mono ?_
  rintro e w5 ⟨rfl, h5, k5⟩
  have H5 := hide h5
  have K5 := hide ((unhide K4).trans k5)
  clear h5 k5 g5
  go_wp2
  go_end0
  exact ⟨rfl, unhide H5, unhide K5⟩
end Go.Proofs.YtjcllplgiffmgaaDoor
