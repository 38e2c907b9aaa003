/- wire's writer: a message: a contract. -/
import Derived.Test.YtjcllplgiffmgaaDoorWriterM
namespace Go.Proofs.YtjcllplgiffmgaaDoor
open Go.RowKit

theorem ints_new (base : Nat) (w : World) (ys : List Int) : Ints base [5, 105] (w.alloc (.cells (ys.map fun y => Value.int .i64 y).toArray 3)) (some ⟨w.heap.size, 0, none⟩) ys := by
  intro i hi
  have hb := heap_alloc_new w (.cells (ys.map fun y => Value.int .i64 y).toArray 3)
  refine ⟨_, rfl, ?_, Or.inr ⟨_, _, _, hb, by decide⟩⟩
  rw [Addr.add_lit, cell_of_block hb]
  simp [List.getD_eq_getElem?_getD, List.getElem?_eq_getElem hi]
theorem bit_any (b : Bool) (w : World) : Calls Tryd.prog 67 #[.bool b] w fun e w' => e = .returned (.int .i64 (if b = true then 1 else 0)) ∧ w' = w := by
  cases b with
  | true =>
    go_enter Tryd.func67, Tryd.ntmps67
    go_wp2
    go_ret
    exact ⟨rfl, rfl⟩
  | false =>
    go_enter Tryd.func67, Tryd.ntmps67
    go_wp2
    go_ret
    exact ⟨rfl, rfl⟩

def bitOf (b : Bool) : Int := if b = true then 1 else 0
def putMsg (from' to' gen kind term index last commit : Int) (yes : Bool) (terms : List Int) (es : List En) (old new : List Int) (s : List Nat × Nat) : List Nat × Nat :=
  putConfig old new (putEntries es (putList 6 terms (putRule 3 (bitOf yes) (putInts [term, index, last, commit] (putRule 2 kind (putInts [from', to', gen] s))))))
theorem putInts_len (ys : List Int) (s : List Nat × Nat) : (putInts ys s).1.length = s.1.length + 8 * ys.length := by unfold putInts; rw [List.length_append, nums_len]
theorem putEntries_len (es : List En) (s : List Nat × Nat) : (putEntries es s).1.length ≤ s.1.length + 40000 := by
  have h1 := putRule_len 6 es.length s
  unfold putEntries
  split
  · rename_i h
    have h2 := (refuse_range h.2).2
    have h3 := putEs_len es (putRule 6 es.length s)
    omega
  · omega

set_option maxRecDepth 20000 in
set_option maxHeartbeats 2000000 in
theorem msg_any (base p : Nat) (s : List Nat × Nat) (from' to' gen kind term index last commit : Int) (yes : Bool) (aot : Option Addr) (nt ct : Nat) (terms : List Int) (hnt : terms.length = nt) (aoe : Option Addr) (ne ce : Nat) (es : List En) (hne : es.length = ne) (hnm : ne ≤ 9223372036854775807)
    (aoo aon : Option Addr) (no nn co cn : Nat) (old new : List Int) (hno : old.length = no) (hnn : new.length = nn) (hl : s.1.length ≤ 600000000) (w : World) (h : Wr base w p s.1 s.2)
    (ht : Ints base [5, 105] w aot terms) (he : Ents base [5, 105] w aoe es) (ho : Ints base [5, 105] w aoo old) (hw : Ints base [5, 105] w aon new) (hbase : base ≤ w.heap.size) :
    Calls Tryd.prog 39 #[.pointer (some ⟨p, 0, none⟩), .agg #[.int .i64 from', .int .i64 to', .int .i64 gen, .int .i64 kind, .int .i64 term, .int .i64 index, .int .i64 last, .int .i64 commit, .bool yes, .slice aot nt ct, .slice aoe ne ce, .slice aoo no co, .slice aon nn cn]] w fun e w' => e = .returned (.tuple #[]) ∧
      Wr base w' p (putMsg from' to' gen kind term index last commit yes terms es old new s).1 (putMsg from' to' gen kind term index last commit yes terms es old new s).2 ∧ Only base [5, 105] w w' := by
  have k0 : Only base [5, 105] w (w.alloc (.cells #[.int .i64 from', .int .i64 to', .int .i64 gen, .int .i64 kind, .int .i64 term, .int .i64 index, .int .i64 last, .int .i64 commit, .bool yes, .slice aot nt ct, .slice aoe ne ce, .slice aoo no co, .slice aon nn cn] 41)) := (Only.refl _ _ _).alloc hbase _
  have x0 := heap_alloc_new w (.cells #[.int .i64 from', .int .i64 to', .int .i64 gen, .int .i64 kind, .int .i64 term, .int .i64 index, .int .i64 last, .int .i64 commit, .bool yes, .slice aot nt ct, .slice aoe ne ce, .slice aoo no co, .slice aon nn cn] 41)
  have s0 := Nat.le_trans hbase k0.size
  have w0 := h.below ((Below.refl _ w).alloc (Nat.le_refl _) (.cells #[.int .i64 from', .int .i64 to', .int .i64 gen, .int .i64 kind, .int .i64 term, .int .i64 index, .int .i64 last, .int .i64 commit, .bool yes, .slice aot nt ct, .slice aoe ne ce, .slice aoo no co, .slice aon nn cn] 41))
  have ki : Only base [5, 105] (w.alloc (.cells #[.int .i64 from', .int .i64 to', .int .i64 gen, .int .i64 kind, .int .i64 term, .int .i64 index, .int .i64 last, .int .i64 commit, .bool yes, .slice aot nt ct, .slice aoe ne ce, .slice aoo no co, .slice aon nn cn] 41)) ((w.alloc (.cells #[.int .i64 from', .int .i64 to', .int .i64 gen, .int .i64 kind, .int .i64 term, .int .i64 index, .int .i64 last, .int .i64 commit, .bool yes, .slice aot nt ct, .slice aoe ne ce, .slice aoo no co, .slice aon nn cn] 41)).alloc (.cells #[.int .i64 from', .int .i64 to', .int .i64 gen] 3)) := (Only.refl _ _ _).alloc s0 _
  have W1 := hide (w0.below ((Below.refl _ (w.alloc (.cells #[.int .i64 from', .int .i64 to', .int .i64 gen, .int .i64 kind, .int .i64 term, .int .i64 index, .int .i64 last, .int .i64 commit, .bool yes, .slice aot nt ct, .slice aoe ne ce, .slice aoo no co, .slice aon nn cn] 41))).alloc (Nat.le_refl _) (.cells #[.int .i64 from', .int .i64 to', .int .i64 gen] 3)))
  have I1 : Hid (Ints base [5, 105] ((w.alloc (.cells #[.int .i64 from', .int .i64 to', .int .i64 gen, .int .i64 kind, .int .i64 term, .int .i64 index, .int .i64 last, .int .i64 commit, .bool yes, .slice aot nt ct, .slice aoe ne ce, .slice aoo no co, .slice aon nn cn] 41)).alloc (.cells #[.int .i64 from', .int .i64 to', .int .i64 gen] 3)) (some ⟨w.heap.size + 1, 0, none⟩) [from', to', gen]) := by
    have h1 := ints_new base (w.alloc (.cells #[.int .i64 from', .int .i64 to', .int .i64 gen, .int .i64 kind, .int .i64 term, .int .i64 index, .int .i64 last, .int .i64 commit, .bool yes, .slice aot nt ct, .slice aoe ne ce, .slice aoo no co, .slice aon nn cn] 41)) [from', to', gen]
    have e1 : (w.alloc (.cells #[.int .i64 from', .int .i64 to', .int .i64 gen, .int .i64 kind, .int .i64 term, .int .i64 index, .int .i64 last, .int .i64 commit, .bool yes, .slice aot nt ct, .slice aoe ne ce, .slice aoo no co, .slice aon nn cn] 41)).heap.size = w.heap.size + 1 := by simp
    rw [e1] at h1
    exact h1
  have X1 := hide (ki.block x0 (by decide))
  have S1 := hide (Nat.le_trans s0 ki.size)
  have kk := k0.trans ki
  have K1 := hide kk
  have T1 := hide (ht.only kk)
  have E1 := hide (he.only kk)
  have O1 := hide (ho.only kk)
  have N1 := hide (hw.only kk)
  have HNT := hide hnt
  have HNE := hide hne
  have HNO := hide hno
  have HNN := hide hnn
  obtain ⟨s1, es1⟩ : ∃ s1, putInts [from', to', gen] s = s1 := ⟨_, rfl⟩
  obtain ⟨s2, es2⟩ : ∃ s2, putRule 2 kind s1 = s2 := ⟨_, rfl⟩
  obtain ⟨s3, es3⟩ : ∃ s3, putInts [term, index, last, commit] s2 = s3 := ⟨_, rfl⟩
  obtain ⟨s4, es4⟩ : ∃ s4, putRule 3 (bitOf yes) s3 = s4 := ⟨_, rfl⟩
  obtain ⟨s5, es5⟩ : ∃ s5, putList 6 terms s4 = s5 := ⟨_, rfl⟩
  obtain ⟨s6, es6⟩ : ∃ s6, putEntries es s5 = s6 := ⟨_, rfl⟩
  obtain ⟨s7, es7⟩ : ∃ s7, putConfig old new s6 = s7 := ⟨_, rfl⟩
  have em : putMsg from' to' gen kind term index last commit yes terms es old new s = s7 := by unfold putMsg; rw [es1, es2, es3, es4, es5, es6, es7]
  rw [em]
  have l1 : s1.1.length = s.1.length + 24 := by rw [← es1, putInts_len]; rfl
  have l2 : s2.1.length ≤ s1.1.length + 1 := by rw [← es2]; exact putRule_len _ _ _
  have l3 : s3.1.length = s2.1.length + 32 := by rw [← es3, putInts_len]; rfl
  have l4 : s4.1.length ≤ s3.1.length + 1 := by rw [← es4]; exact putRule_len _ _ _
  have l5 : s5.1.length ≤ s4.1.length + 513 := by rw [← es5]; exact putList_len _ _ _
  have l6 : s6.1.length ≤ s5.1.length + 40000 := by rw [← es6]; exact putEntries_len _ _
  have LL : Hid (s1.1.length ≤ 700000000 ∧ s2.1.length ≤ 700000000 ∧ s3.1.length ≤ 700000000 ∧ s4.1.length ≤ 700000000 ∧ s5.1.length ≤ 700000000 ∧ s6.1.length ≤ 700000000) := by show _ ∧ _; omega
  have ES1 := hide es1
  have ES2 := hide es2
  have ES3 := hide es3
  have ES4 := hide es4
  have ES5 := hide es5
  have ES6 := hide es6
  have ES7 := hide es7
  clear em l1 l2 l3 l4 l5 l6 es1 es2 es3 es4 es5 es6 es7 k0 x0 s0 w0 ki kk h ht he ho hw hnt hne hno hnn
  go_enter Tryd.func39, Tryd.ntmps39
  go_wp2_with fail
  refine (ints_any base p s.1 s.2 _ 3 3 [from', to', gen] rfl _ (unhide W1) (unhide I1) (unhide S1) (by omega)).mono ?_
  rintro e w1 ⟨rfl, h1, k1⟩
  have x1 := k1.block (unhide X1) (by decide)
  have c3 : w1.cell? ⟨w.heap.size, 3, none⟩ = some (.int .i64 kind) := (cell_of_block x1).trans rfl
  have H1 : Hid (Wr base w1 p s1.1 s1.2) := by show Wr _ _ _ _ _; rw [← unhide ES1]; exact h1
  have X2 := hide x1
  have K2 := hide ((unhide K1).trans k1)
  have T2 := hide ((unhide T1).only k1)
  have E2 := hide ((unhide E1).only k1)
  have O2 := hide ((unhide O1).only k1)
  have N2 := hide ((unhide N1).only k1)
  have b1 := Nat.le_trans (unhide S1) k1.size
  clear h1 k1 x1
  go_wp2_with fail
  refine (ruled_any base p 2 (by decide) s1 kind (by have := unhide LL; omega) w1 (unhide H1) b1).mono ?_
  rintro e w2 ⟨rfl, h2, k2⟩
  have x2 := k2.block (unhide X2) (by decide)
  have c4 : w2.cell? ⟨w.heap.size, 4, none⟩ = some (.int .i64 term) := (cell_of_block x2).trans rfl
  have c5 : w2.cell? ⟨w.heap.size, 5, none⟩ = some (.int .i64 index) := (cell_of_block x2).trans rfl
  have c6 : w2.cell? ⟨w.heap.size, 6, none⟩ = some (.int .i64 last) := (cell_of_block x2).trans rfl
  have c7 : w2.cell? ⟨w.heap.size, 7, none⟩ = some (.int .i64 commit) := (cell_of_block x2).trans rfl
  have b2 := Nat.le_trans b1 k2.size
  have h2' : Wr base w2 p s2.1 s2.2 := by rw [← unhide ES2]; exact h2
  have ka : Only base [5, 105] w2 (w2.alloc (.cells #[.int .i64 term, .int .i64 index, .int .i64 last, .int .i64 commit] 3)) := (Only.refl _ _ _).alloc b2 _
  have H2 := hide (h2'.below ((Below.refl _ w2).alloc (Nat.le_refl _) (.cells #[.int .i64 term, .int .i64 index, .int .i64 last, .int .i64 commit] 3)))
  have I2 : Hid (Ints base [5, 105] (w2.alloc (.cells #[.int .i64 term, .int .i64 index, .int .i64 last, .int .i64 commit] 3)) (some ⟨w2.heap.size, 0, none⟩) [term, index, last, commit]) := ints_new base w2 [term, index, last, commit]
  have kb := k2.trans ka
  have X3 := hide (ka.block x2 (by decide))
  have K3 := hide ((unhide K2).trans kb)
  have T3 := hide ((unhide T2).only kb)
  have E3 := hide ((unhide E2).only kb)
  have O3 := hide ((unhide O2).only kb)
  have N3 := hide ((unhide N2).only kb)
  have S3 := hide (Nat.le_trans b2 ka.size)
  clear h2 h2' k2 x2 ka kb c3
  go_wp2_with fail
  refine (ints_any base p s2.1 s2.2 _ 4 4 [term, index, last, commit] rfl _ (unhide H2) (unhide I2) (unhide S3) (by have := unhide LL; omega)).mono ?_
  rintro e w3 ⟨rfl, h3, k3⟩
  have x3 := k3.block (unhide X3) (by decide)
  have c8 : w3.cell? ⟨w.heap.size, 8, none⟩ = some (.bool yes) := (cell_of_block x3).trans rfl
  have H3 : Hid (Wr base w3 p s3.1 s3.2) := by show Wr _ _ _ _ _; rw [← unhide ES3]; exact h3
  have X4 := hide x3
  have K4 := hide ((unhide K3).trans k3)
  have T4 := hide ((unhide T3).only k3)
  have E4 := hide ((unhide E3).only k3)
  have O4 := hide ((unhide O3).only k3)
  have N4 := hide ((unhide N3).only k3)
  have b3 := Nat.le_trans (unhide S3) k3.size
  clear h3 k3 x3 c4 c5 c6 c7
  go_wp2_with fail
  refine (bit_any yes w3).mono ?_
  rintro e w3' ⟨rfl, rfl⟩
  have eb : (if yes = true then (1 : Int) else 0) = bitOf yes := rfl
  rw [eb]
  go_wp2_with fail
  refine (ruled_any base p 3 (by decide) s3 (bitOf yes) (by have := unhide LL; omega) w3' (unhide H3) b3).mono ?_
  rintro e w4 ⟨rfl, h4, k4⟩
  have x4 := k4.block (unhide X4) (by decide)
  have c9 : w4.cell? ⟨w.heap.size, 9, none⟩ = some (.slice aot nt ct) := (cell_of_block x4).trans rfl
  have H4 : Hid (Wr base w4 p s4.1 s4.2) := by show Wr _ _ _ _ _; rw [← unhide ES4]; exact h4
  have X5 := hide x4
  have K5 := hide ((unhide K4).trans k4)
  have T5 := hide ((unhide T4).only k4)
  have E5 := hide ((unhide E4).only k4)
  have O5 := hide ((unhide O4).only k4)
  have N5 := hide ((unhide N4).only k4)
  have b4 := Nat.le_trans b3 k4.size
  clear h4 k4 x4 c8 eb
  go_wp2_with fail
  refine (list_any base p 6 (by decide) s4 aot nt ct terms (unhide HNT) (by have := unhide LL; omega) w4 (unhide H4) (unhide T5) b4).mono ?_
  rintro e w5 ⟨rfl, h5, k5⟩
  have x5 := k5.block (unhide X5) (by decide)
  have c10 : w5.cell? ⟨w.heap.size, 10, none⟩ = some (.slice aoe ne ce) := (cell_of_block x5).trans rfl
  have H5 : Hid (Wr base w5 p s5.1 s5.2) := by show Wr _ _ _ _ _; rw [← unhide ES5]; exact h5
  have X6 := hide x5
  have K6 := hide ((unhide K5).trans k5)
  have E6 := hide ((unhide E5).only k5)
  have O6 := hide ((unhide O5).only k5)
  have N6 := hide ((unhide N5).only k5)
  have b5 := Nat.le_trans b4 k5.size
  clear h5 k5 x5 c9
  go_wp2_with fail
  refine (entries_any base p s5 aoe ne ce es (unhide HNE) hnm (by have := unhide LL; omega) w5 (unhide H5) (unhide E6) b5).mono ?_
  rintro e w6 ⟨rfl, h6, k6⟩
  have x6 := k6.block (unhide X6) (by decide)
  have c11 : w6.cell? ⟨w.heap.size, 11, none⟩ = some (.slice aoo no co) := (cell_of_block x6).trans rfl
  have c12 : w6.cell? ⟨w.heap.size, 12, none⟩ = some (.slice aon nn cn) := (cell_of_block x6).trans rfl
  have H6 : Hid (Wr base w6 p s6.1 s6.2) := by show Wr _ _ _ _ _; rw [← unhide ES6]; exact h6
  have K7 := hide ((unhide K6).trans k6)
  have O7 := hide ((unhide O6).only k6)
  have N7 := hide ((unhide N6).only k6)
  have b6 := Nat.le_trans b5 k6.size
  clear h6 k6 x6 c10
  go_wp2_with fail
  refine (config_any base p s6 aoo aon no nn co cn old new (unhide HNO) (unhide HNN) (by have := unhide LL; omega) w6 (unhide H6) (unhide O7) (unhide N7) b6).mono ?_
  rintro e w7 ⟨rfl, h7, k7⟩
  have H7 : Hid (Wr base w7 p s7.1 s7.2) := by show Wr _ _ _ _ _; rw [← unhide ES7]; exact h7
  have K8 := hide ((unhide K7).trans k7)
  clear h7 k7 c11 c12
  go_wp2
  go_end0
  exact ⟨rfl, unhide H7, unhide K8⟩
end Go.Proofs.YtjcllplgiffmgaaDoor
