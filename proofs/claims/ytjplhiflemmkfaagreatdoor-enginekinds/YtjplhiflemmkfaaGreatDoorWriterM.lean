/- wire's writer: entries, a message: contracts. wire's writer: a message: a contract. wire.EncodeEntry: a contract. wire's encode of a message and of a configuration: contracts. wire.EncodeMsg, wire.EncodeConfig: contracts. WireBounds: what is refused, by numbers alone; rows of zeros. -/
import Derived.Test.YtjplhiflemmkfaaGreatDoorWriterE
import Derived.Laws.BytesArg
import Derived.Deep.OwnRows
namespace Go.Proofs.YtjplhiflemmkfaaGreatDoor
open Go.RowKit

structure En where
  kind : Int
  client : Int
  seq : Int
  text : ByteArray
  ms : List Int
  to : Int
instance : Inhabited En := ⟨⟨0, 0, 0, ByteArray.empty, [], 0⟩⟩
def putE (e : En) (s : List Nat × Nat) : List Nat × Nat := putEntry e.kind e.client e.seq e.text e.ms e.to s
def putEs (es : List En) (s : List Nat × Nat) : List Nat × Nat := es.foldl (fun s e => putE e s) s
def putEntries (es : List En) (s : List Nat × Nat) : List Nat × Nat :=
  if s.2 = 0 ∧ refuse 6 es.length = 0 then putEs es (putRule 6 es.length s) else putRule 6 es.length s
theorem putE_len (e : En) (s : List Nat × Nat) : (putE e s).1.length ≤ s.1.length + 600 := by
  have h1 := putRule_len 0 e.kind s
  have h2 : (putInts [e.client, e.seq] (putRule 0 e.kind s)).1.length = (putRule 0 e.kind s).1.length + 16 := by unfold putInts; rw [List.length_append, nums_len]; rfl
  have h3 := putText_len e.text (putInts [e.client, e.seq] (putRule 0 e.kind s))
  have h4 := putList_len 5 e.ms (putText e.text (putInts [e.client, e.seq] (putRule 0 e.kind s)))
  have h5 := putRule_len 1 e.to (putList 5 e.ms (putText e.text (putInts [e.client, e.seq] (putRule 0 e.kind s))))
  unfold putE putEntry
  omega
theorem putEs_len : ∀ (es : List En) (s : List Nat × Nat), (putEs es s).1.length ≤ s.1.length + 600 * es.length
  | [], s => by simp [putEs]
  | e :: es, s => by
    have h1 := putEs_len es (putE e s)
    have h2 := putE_len e s
    have e1 : putEs (e :: es) s = putEs es (putE e s) := rfl
    rw [e1]
    simp only [List.length_cons]
    omega
theorem putEs_snoc (es : List En) (e : En) (s : List Nat × Nat) : putEs (es ++ [e]) s = putE e (putEs es s) := by simp [putEs]

/-- a slice's entries, which stay. -/
def Ents (base : Nat) (ts : List TypeId) (w : World) (ao : Option Addr) (es : List En) : Prop :=
  ∀ i, i < es.length → ∃ blk off r cx, ao = some ⟨blk, off, none⟩ ∧ w.cell? ⟨blk, off + i * 6, none⟩ = some (.int .i64 (es.getD i default).kind) ∧ w.cell? ⟨blk, off + i * 6 + 1, none⟩ = some (.int .i64 (es.getD i default).client) ∧ w.cell? ⟨blk, off + i * 6 + 2, none⟩ = some (.int .i64 (es.getD i default).seq) ∧
    w.cell? ⟨blk, off + i * 6 + 3, none⟩ = some (.string (es.getD i default).text) ∧ w.cell? ⟨blk, off + i * 6 + 4, none⟩ = some (.slice r (es.getD i default).ms.length cx) ∧ w.cell? ⟨blk, off + i * 6 + 5, none⟩ = some (.int .i64 (es.getD i default).to) ∧
    Ints base ts w r (es.getD i default).ms ∧ (es.getD i default).text.size ≤ maxLen ∧ Stay base ts w blk
theorem Ents.only {base : Nat} {ts : List TypeId} {w w' : World} {ao : Option Addr} {es : List En} (h : Ents base ts w ao es) (ho : Only base ts w w') : Ents base ts w' ao es := fun i hi => by
  obtain ⟨blk, off, r, cx, e, h0, h1, h2, h3, h4, h5, hm, ht, hs⟩ := h i hi
  have hc : ∀ o, w'.cell? ⟨blk, o, none⟩ = w.cell? ⟨blk, o, none⟩ := fun o => World.cell?_of_block (w := w) (a := ⟨blk, o, none⟩) (hs.heap ho)
  exact ⟨blk, off, r, cx, e, by rw [hc]; exact h0, by rw [hc]; exact h1, by rw [hc]; exact h2, by rw [hc]; exact h3, by rw [hc]; exact h4, by rw [hc]; exact h5, hm.only ho, ht, hs.only ho⟩

set_option maxRecDepth 20000 in
set_option maxHeartbeats 1000000 in
theorem entries_any (base p : Nat) (s : List Nat × Nat) (ao : Option Addr) (n cap : Nat) (es : List En) (hn : es.length = n) (hnm : n ≤ 9223372036854775807) (hl : s.1.length ≤ 700000000) (w : World) (h : Wr base w p s.1 s.2) (hy : Ents base [5, 336] w ao es) (hbase : base ≤ w.heap.size) :
    Calls Tryz.prog 285 #[.pointer (some ⟨p, 0, none⟩), .slice ao n cap] w fun e w' => e = .returned (.tuple #[]) ∧ Wr base w' p (putEntries es s).1 (putEntries es s).2 ∧ Only base [5, 336] w w' := by
  have HW := hide h
  have HY := hide hy
  have HN := hide hn
  clear h hy hn
  by_cases hc : s.2 = 0 ∧ refuse 6 n = 0
  · have e1 : putEntries es s = putEs es (putRule 6 n s) := by unfold putEntries; rw [unhide HN, if_pos hc]
    have hr := (refuse_range hc.2).2
    have hd : decide (s.2 = 0 ∧ refuse 6 n = 0) = true := decide_eq_true hc
    have hpl := putRule_len 6 n s
    rw [e1]
    have HD := hide hd
    clear e1 hc hd
    go_enter Tryz.func285, Tryz.ntmps285
    go_wp2_with fail
    refine (ruled_any base p 6 (by decide) s n (by omega) w (unhide HW) hbase).mono ?_
    rw [unhide HD]
    rintro e w1 ⟨rfl, h1, k1⟩
    have H1 := hide h1
    have K1 := hide k1
    have s1 : base ≤ w1.heap.size := Nat.le_trans hbase k1.size
    have Y1 := hide ((unhide HY).only k1)
    clear h1 k1 HY
    go_wp2_with fail
    go_loopg [13] n (fun g iv wr => ∃ k : Nat, k + g = n ∧ iv = .int .i64 (k : Int) ∧ Wr base wr p (putEs (es.take k) (putRule 6 n s)).1 (putEs (es.take k) (putRule 6 n s)).2 ∧ Only base [5, 336] w1 wr)
    case atStart => exact ⟨0, by omega, rfl, unhide H1, Only.refl _ _ _⟩
    case round =>
      obtain ⟨k, hg, rfl, hwr, hon⟩ := hrel
      have HG := hide hg
      have HO := hide hon
      have HWR := hide hwr
      have hkn : k ≤ n := by omega
      clear hg hon hwr H1
      by_cases hlt : k < n
      · obtain ⟨blk, off, r, cx, rfl, h0, h1, h2, h3, h4, h5, hm, ht, _⟩ := ((unhide Y1).only (unhide HO)) k (by rw [unhide HN]; exact hlt)
        have hs : es.take (k + 1) = es.take k ++ [es.getD k default] := take_succ es default k (by rw [unhide HN]; exact hlt)
        generalize es.getD k default = en at *
        obtain ⟨kind, client, seq, text, ms, to'⟩ := en
        simp only at h0 h1 h2 h3 h4 h5 hm ht
        have hlen := putEs_len (es.take k) (putRule 6 n s)
        rw [List.length_take, unhide HN] at hlen
        obtain ⟨lm, elm⟩ : ∃ lm, ms.length = lm := ⟨_, rfl⟩
        rw [elm] at h4
        have s2 : base ≤ wr.heap.size := Nat.le_trans s1 (unhide HO).size
        have ka : Only base [5, 336] wr (wr.alloc (.cells #[.int .i64 kind, .int .i64 client, .int .i64 seq, .string text, .slice r lm cx, .int .i64 to'] 43)) := (Only.refl _ _ _).alloc s2 _
        have WA := hide ((unhide HWR).below ((Below.refl _ wr).alloc (Nat.le_refl _) (.cells #[.int .i64 kind, .int .i64 client, .int .i64 seq, .string text, .slice r lm cx, .int .i64 to'] 43)))
        have MA := hide (hm.only ka)
        have SA := hide (Nat.le_trans s2 ka.size)
        have KA := hide ((unhide HO).trans ka)
        have HS := hide hs
        have ELM := hide elm
        have HT := hide ht
        have HLEN := hide hlen
        clear hs ka hm elm ht hlen
        go_wp2_with fail
        refine (entry_any base p (putEs (es.take k) (putRule 6 n s)) kind client seq to' text (unhide HT) r lm cx ms (unhide ELM) (by have := unhide HLEN; omega) _ (unhide WA) (unhide MA) (unhide SA)).mono ?_
        rintro e w3 ⟨rfl, h6, k6⟩
        have H6 : Hid (Wr base w3 p (putEs (es.take (k + 1)) (putRule 6 n s)).1 (putEs (es.take (k + 1)) (putRule 6 n s)).2) := by
          show Wr _ _ _ _ _
          rw [unhide HS, putEs_snoc]; exact h6
        have K6 := hide ((unhide KA).trans k6)
        clear h6 k6 h0 h1 h2 h3 h4 h5
        go_wp2
        go_roundg (n - (k + 1))
        case measure => have := unhide HG; omega
        case rel => exact ⟨k + 1, by omega, by go_num, unhide H6, unhide K6⟩
      · obtain rfl : k = n := by omega
        have et : es.take k = es := by rw [← unhide HN, List.take_length]
        have HET := hide et
        clear et
        go_wp2
        go_end0
        have h6 := unhide HWR
        rw [unhide HET] at h6
        exact ⟨rfl, h6, (unhide K1).trans (unhide HO)⟩
  · have e1 : putEntries es s = putRule 6 n s := by unfold putEntries; rw [unhide HN, if_neg hc]
    have hd : decide (s.2 = 0 ∧ refuse 6 n = 0) = false := decide_eq_false hc
    rw [e1]
    have HD := hide hd
    clear e1 hc hd
    go_enter Tryz.func285, Tryz.ntmps285
    go_wp2_with fail
    refine (ruled_any base p 6 (by decide) s n (by omega) w (unhide HW) hbase).mono ?_
    rw [unhide HD]
    rintro e w1 ⟨rfl, h1, k1⟩
    have H1 := hide h1
    have K1 := hide k1
    clear h1 k1
    go_wp2
    (try simp only [Exit.inBlock, Exit.then])
    refine bodyPost_ret (results_none rfl _ _ _) rfl ?_
    exact ⟨rfl, unhide H1, unhide K1⟩
end Go.Proofs.YtjplhiflemmkfaaGreatDoor
namespace Go.Proofs.YtjplhiflemmkfaaGreatDoor
open Go.RowKit

theorem ints_new (base : Nat) (w : World) (ys : List Int) : Ints base [5, 336] (w.alloc (.cells (ys.map fun y => Value.int .i64 y).toArray 3)) (some ⟨w.heap.size, 0, none⟩) ys := by
  intro i hi
  have hb := heap_alloc_new w (.cells (ys.map fun y => Value.int .i64 y).toArray 3)
  refine ⟨_, rfl, ?_, Or.inr ⟨_, _, _, hb, by decide⟩⟩
  rw [Addr.add_lit, cell_of_block hb]
  simp [List.getD_eq_getElem?_getD, List.getElem?_eq_getElem hi]
theorem bit_any (b : Bool) (w : World) : Calls Tryz.prog 283 #[.bool b] w fun e w' => e = .returned (.int .i64 (if b = true then 1 else 0)) ∧ w' = w := by
  cases b with
  | true =>
    go_enter Tryz.func283, Tryz.ntmps283
    go_wp2
    go_ret
    exact ⟨rfl, rfl⟩
  | false =>
    go_enter Tryz.func283, Tryz.ntmps283
    go_wp2
    go_ret
    exact ⟨rfl, rfl⟩

def bitOf (b : Bool) : Int := if b = true then 1 else 0
def putMsg (from' to' gen kind term index last commit : Int) (yes : Bool) (terms : List Int) (es : List En) (old new : List Int) (s : List Nat × Nat) : List Nat × Nat :=
  putConfig old new (putEntries es (putList 6 terms (putRule 3 (bitOf yes) (putInts [term, index, last, commit] (putRule 2 kind (putInts [from', to', gen] s))))))
theorem putInts_len (ys : List Int) (s : List Nat × Nat) : (putInts ys s).1.length = s.1.length + 8 * ys.length := by unfold putInts; rw [List.length_append, nums_len]
theorem putEntries_len (es : List En) (s : List Nat × Nat) : (putEntries es s).1.length ≤ s.1.length + 40000 := by
  have h1 := putRule_len 6 es.length s
  unfold putEntries
  split
  · rename_i h
    have h2 := (refuse_range h.2).2
    have h3 := putEs_len es (putRule 6 es.length s)
    omega
  · omega

set_option maxRecDepth 20000 in
set_option maxHeartbeats 2000000 in
theorem msg_any (base p : Nat) (s : List Nat × Nat) (from' to' gen kind term index last commit : Int) (yes : Bool) (aot : Option Addr) (nt ct : Nat) (terms : List Int) (hnt : terms.length = nt) (aoe : Option Addr) (ne ce : Nat) (es : List En) (hne : es.length = ne) (hnm : ne ≤ 9223372036854775807)
    (aoo aon : Option Addr) (no nn co cn : Nat) (old new : List Int) (hno : old.length = no) (hnn : new.length = nn) (hl : s.1.length ≤ 600000000) (w : World) (h : Wr base w p s.1 s.2)
    (ht : Ints base [5, 336] w aot terms) (he : Ents base [5, 336] w aoe es) (ho : Ints base [5, 336] w aoo old) (hw : Ints base [5, 336] w aon new) (hbase : base ≤ w.heap.size) :
    Calls Tryz.prog 247 #[.pointer (some ⟨p, 0, none⟩), .agg #[.int .i64 from', .int .i64 to', .int .i64 gen, .int .i64 kind, .int .i64 term, .int .i64 index, .int .i64 last, .int .i64 commit, .bool yes, .slice aot nt ct, .slice aoe ne ce, .slice aoo no co, .slice aon nn cn]] w fun e w' => e = .returned (.tuple #[]) ∧
      Wr base w' p (putMsg from' to' gen kind term index last commit yes terms es old new s).1 (putMsg from' to' gen kind term index last commit yes terms es old new s).2 ∧ Only base [5, 336] w w' := by
  have k0 : Only base [5, 336] w (w.alloc (.cells #[.int .i64 from', .int .i64 to', .int .i64 gen, .int .i64 kind, .int .i64 term, .int .i64 index, .int .i64 last, .int .i64 commit, .bool yes, .slice aot nt ct, .slice aoe ne ce, .slice aoo no co, .slice aon nn cn] 50)) := (Only.refl _ _ _).alloc hbase _
  have x0 := heap_alloc_new w (.cells #[.int .i64 from', .int .i64 to', .int .i64 gen, .int .i64 kind, .int .i64 term, .int .i64 index, .int .i64 last, .int .i64 commit, .bool yes, .slice aot nt ct, .slice aoe ne ce, .slice aoo no co, .slice aon nn cn] 50)
  have s0 := Nat.le_trans hbase k0.size
  have w0 := h.below ((Below.refl _ w).alloc (Nat.le_refl _) (.cells #[.int .i64 from', .int .i64 to', .int .i64 gen, .int .i64 kind, .int .i64 term, .int .i64 index, .int .i64 last, .int .i64 commit, .bool yes, .slice aot nt ct, .slice aoe ne ce, .slice aoo no co, .slice aon nn cn] 50))
  have ki : Only base [5, 336] (w.alloc (.cells #[.int .i64 from', .int .i64 to', .int .i64 gen, .int .i64 kind, .int .i64 term, .int .i64 index, .int .i64 last, .int .i64 commit, .bool yes, .slice aot nt ct, .slice aoe ne ce, .slice aoo no co, .slice aon nn cn] 50)) ((w.alloc (.cells #[.int .i64 from', .int .i64 to', .int .i64 gen, .int .i64 kind, .int .i64 term, .int .i64 index, .int .i64 last, .int .i64 commit, .bool yes, .slice aot nt ct, .slice aoe ne ce, .slice aoo no co, .slice aon nn cn] 50)).alloc (.cells #[.int .i64 from', .int .i64 to', .int .i64 gen] 3)) := (Only.refl _ _ _).alloc s0 _
  have W1 := hide (w0.below ((Below.refl _ (w.alloc (.cells #[.int .i64 from', .int .i64 to', .int .i64 gen, .int .i64 kind, .int .i64 term, .int .i64 index, .int .i64 last, .int .i64 commit, .bool yes, .slice aot nt ct, .slice aoe ne ce, .slice aoo no co, .slice aon nn cn] 50))).alloc (Nat.le_refl _) (.cells #[.int .i64 from', .int .i64 to', .int .i64 gen] 3)))
  have I1 : Hid (Ints base [5, 336] ((w.alloc (.cells #[.int .i64 from', .int .i64 to', .int .i64 gen, .int .i64 kind, .int .i64 term, .int .i64 index, .int .i64 last, .int .i64 commit, .bool yes, .slice aot nt ct, .slice aoe ne ce, .slice aoo no co, .slice aon nn cn] 50)).alloc (.cells #[.int .i64 from', .int .i64 to', .int .i64 gen] 3)) (some ⟨w.heap.size + 1, 0, none⟩) [from', to', gen]) := by
    have h1 := ints_new base (w.alloc (.cells #[.int .i64 from', .int .i64 to', .int .i64 gen, .int .i64 kind, .int .i64 term, .int .i64 index, .int .i64 last, .int .i64 commit, .bool yes, .slice aot nt ct, .slice aoe ne ce, .slice aoo no co, .slice aon nn cn] 50)) [from', to', gen]
    have e1 : (w.alloc (.cells #[.int .i64 from', .int .i64 to', .int .i64 gen, .int .i64 kind, .int .i64 term, .int .i64 index, .int .i64 last, .int .i64 commit, .bool yes, .slice aot nt ct, .slice aoe ne ce, .slice aoo no co, .slice aon nn cn] 50)).heap.size = w.heap.size + 1 := by simp
    rw [e1] at h1
    exact h1
  have X1 := hide (ki.block x0 (by decide))
  have S1 := hide (Nat.le_trans s0 ki.size)
  have kk := k0.trans ki
  have K1 := hide kk
  have T1 := hide (ht.only kk)
  have E1 := hide (he.only kk)
  have O1 := hide (ho.only kk)
  have N1 := hide (hw.only kk)
  have HNT := hide hnt
  have HNE := hide hne
  have HNO := hide hno
  have HNN := hide hnn
  obtain ⟨s1, es1⟩ : ∃ s1, putInts [from', to', gen] s = s1 := ⟨_, rfl⟩
  obtain ⟨s2, es2⟩ : ∃ s2, putRule 2 kind s1 = s2 := ⟨_, rfl⟩
  obtain ⟨s3, es3⟩ : ∃ s3, putInts [term, index, last, commit] s2 = s3 := ⟨_, rfl⟩
  obtain ⟨s4, es4⟩ : ∃ s4, putRule 3 (bitOf yes) s3 = s4 := ⟨_, rfl⟩
  obtain ⟨s5, es5⟩ : ∃ s5, putList 6 terms s4 = s5 := ⟨_, rfl⟩
  obtain ⟨s6, es6⟩ : ∃ s6, putEntries es s5 = s6 := ⟨_, rfl⟩
  obtain ⟨s7, es7⟩ : ∃ s7, putConfig old new s6 = s7 := ⟨_, rfl⟩
  have em : putMsg from' to' gen kind term index last commit yes terms es old new s = s7 := by unfold putMsg; rw [es1, es2, es3, es4, es5, es6, es7]
  rw [em]
  have l1 : s1.1.length = s.1.length + 24 := by rw [← es1, putInts_len]; rfl
  have l2 : s2.1.length ≤ s1.1.length + 1 := by rw [← es2]; exact putRule_len _ _ _
  have l3 : s3.1.length = s2.1.length + 32 := by rw [← es3, putInts_len]; rfl
  have l4 : s4.1.length ≤ s3.1.length + 1 := by rw [← es4]; exact putRule_len _ _ _
  have l5 : s5.1.length ≤ s4.1.length + 513 := by rw [← es5]; exact putList_len _ _ _
  have l6 : s6.1.length ≤ s5.1.length + 40000 := by rw [← es6]; exact putEntries_len _ _
  have LL : Hid (s1.1.length ≤ 700000000 ∧ s2.1.length ≤ 700000000 ∧ s3.1.length ≤ 700000000 ∧ s4.1.length ≤ 700000000 ∧ s5.1.length ≤ 700000000 ∧ s6.1.length ≤ 700000000) := by show _ ∧ _; omega
  have ES1 := hide es1
  have ES2 := hide es2
  have ES3 := hide es3
  have ES4 := hide es4
  have ES5 := hide es5
  have ES6 := hide es6
  have ES7 := hide es7
  clear em l1 l2 l3 l4 l5 l6 es1 es2 es3 es4 es5 es6 es7 k0 x0 s0 w0 ki kk h ht he ho hw hnt hne hno hnn
  go_enter Tryz.func247, Tryz.ntmps247
  go_wp2_with fail
  refine (ints_any base p s.1 s.2 _ 3 3 [from', to', gen] rfl _ (unhide W1) (unhide I1) (unhide S1) (by omega)).mono ?_
  rintro e w1 ⟨rfl, h1, k1⟩
  have x1 := k1.block (unhide X1) (by decide)
  have c3 : w1.cell? ⟨w.heap.size, 3, none⟩ = some (.int .i64 kind) := (cell_of_block x1).trans rfl
  have H1 : Hid (Wr base w1 p s1.1 s1.2) := by show Wr _ _ _ _ _; rw [← unhide ES1]; exact h1
  have X2 := hide x1
  have K2 := hide ((unhide K1).trans k1)
  have T2 := hide ((unhide T1).only k1)
  have E2 := hide ((unhide E1).only k1)
  have O2 := hide ((unhide O1).only k1)
  have N2 := hide ((unhide N1).only k1)
  have b1 := Nat.le_trans (unhide S1) k1.size
  clear h1 k1 x1
  go_wp2_with fail
  refine (ruled_any base p 2 (by decide) s1 kind (by have := unhide LL; omega) w1 (unhide H1) b1).mono ?_
  rintro e w2 ⟨rfl, h2, k2⟩
  have x2 := k2.block (unhide X2) (by decide)
  have c4 : w2.cell? ⟨w.heap.size, 4, none⟩ = some (.int .i64 term) := (cell_of_block x2).trans rfl
  have c5 : w2.cell? ⟨w.heap.size, 5, none⟩ = some (.int .i64 index) := (cell_of_block x2).trans rfl
  have c6 : w2.cell? ⟨w.heap.size, 6, none⟩ = some (.int .i64 last) := (cell_of_block x2).trans rfl
  have c7 : w2.cell? ⟨w.heap.size, 7, none⟩ = some (.int .i64 commit) := (cell_of_block x2).trans rfl
  have b2 := Nat.le_trans b1 k2.size
  have h2' : Wr base w2 p s2.1 s2.2 := by rw [← unhide ES2]; exact h2
  have ka : Only base [5, 336] w2 (w2.alloc (.cells #[.int .i64 term, .int .i64 index, .int .i64 last, .int .i64 commit] 3)) := (Only.refl _ _ _).alloc b2 _
  have H2 := hide (h2'.below ((Below.refl _ w2).alloc (Nat.le_refl _) (.cells #[.int .i64 term, .int .i64 index, .int .i64 last, .int .i64 commit] 3)))
  have I2 : Hid (Ints base [5, 336] (w2.alloc (.cells #[.int .i64 term, .int .i64 index, .int .i64 last, .int .i64 commit] 3)) (some ⟨w2.heap.size, 0, none⟩) [term, index, last, commit]) := ints_new base w2 [term, index, last, commit]
  have kb := k2.trans ka
  have X3 := hide (ka.block x2 (by decide))
  have K3 := hide ((unhide K2).trans kb)
  have T3 := hide ((unhide T2).only kb)
  have E3 := hide ((unhide E2).only kb)
  have O3 := hide ((unhide O2).only kb)
  have N3 := hide ((unhide N2).only kb)
  have S3 := hide (Nat.le_trans b2 ka.size)
  clear h2 h2' k2 x2 ka kb c3
  go_wp2_with fail
  refine (ints_any base p s2.1 s2.2 _ 4 4 [term, index, last, commit] rfl _ (unhide H2) (unhide I2) (unhide S3) (by have := unhide LL; omega)).mono ?_
  rintro e w3 ⟨rfl, h3, k3⟩
  have x3 := k3.block (unhide X3) (by decide)
  have c8 : w3.cell? ⟨w.heap.size, 8, none⟩ = some (.bool yes) := (cell_of_block x3).trans rfl
  have H3 : Hid (Wr base w3 p s3.1 s3.2) := by show Wr _ _ _ _ _; rw [← unhide ES3]; exact h3
  have X4 := hide x3
  have K4 := hide ((unhide K3).trans k3)
  have T4 := hide ((unhide T3).only k3)
  have E4 := hide ((unhide E3).only k3)
  have O4 := hide ((unhide O3).only k3)
  have N4 := hide ((unhide N3).only k3)
  have b3 := Nat.le_trans (unhide S3) k3.size
  clear h3 k3 x3 c4 c5 c6 c7
  go_wp2_with fail
  refine (bit_any yes w3).mono ?_
  rintro e w3' ⟨rfl, rfl⟩
  have eb : (if yes = true then (1 : Int) else 0) = bitOf yes := rfl
  rw [eb]
  go_wp2_with fail
  refine (ruled_any base p 3 (by decide) s3 (bitOf yes) (by have := unhide LL; omega) w3' (unhide H3) b3).mono ?_
  rintro e w4 ⟨rfl, h4, k4⟩
  have x4 := k4.block (unhide X4) (by decide)
  have c9 : w4.cell? ⟨w.heap.size, 9, none⟩ = some (.slice aot nt ct) := (cell_of_block x4).trans rfl
  have H4 : Hid (Wr base w4 p s4.1 s4.2) := by show Wr _ _ _ _ _; rw [← unhide ES4]; exact h4
  have X5 := hide x4
  have K5 := hide ((unhide K4).trans k4)
  have T5 := hide ((unhide T4).only k4)
  have E5 := hide ((unhide E4).only k4)
  have O5 := hide ((unhide O4).only k4)
  have N5 := hide ((unhide N4).only k4)
  have b4 := Nat.le_trans b3 k4.size
  clear h4 k4 x4 c8 eb
  go_wp2_with fail
  refine (list_any base p 6 (by decide) s4 aot nt ct terms (unhide HNT) (by have := unhide LL; omega) w4 (unhide H4) (unhide T5) b4).mono ?_
  rintro e w5 ⟨rfl, h5, k5⟩
  have x5 := k5.block (unhide X5) (by decide)
  have c10 : w5.cell? ⟨w.heap.size, 10, none⟩ = some (.slice aoe ne ce) := (cell_of_block x5).trans rfl
  have H5 : Hid (Wr base w5 p s5.1 s5.2) := by show Wr _ _ _ _ _; rw [← unhide ES5]; exact h5
  have X6 := hide x5
  have K6 := hide ((unhide K5).trans k5)
  have E6 := hide ((unhide E5).only k5)
  have O6 := hide ((unhide O5).only k5)
  have N6 := hide ((unhide N5).only k5)
  have b5 := Nat.le_trans b4 k5.size
  clear h5 k5 x5 c9
  go_wp2_with fail
  refine (entries_any base p s5 aoe ne ce es (unhide HNE) hnm (by have := unhide LL; omega) w5 (unhide H5) (unhide E6) b5).mono ?_
  rintro e w6 ⟨rfl, h6, k6⟩
  have x6 := k6.block (unhide X6) (by decide)
  have c11 : w6.cell? ⟨w.heap.size, 11, none⟩ = some (.slice aoo no co) := (cell_of_block x6).trans rfl
  have c12 : w6.cell? ⟨w.heap.size, 12, none⟩ = some (.slice aon nn cn) := (cell_of_block x6).trans rfl
  have H6 : Hid (Wr base w6 p s6.1 s6.2) := by show Wr _ _ _ _ _; rw [← unhide ES6]; exact h6
  have K7 := hide ((unhide K6).trans k6)
  have O7 := hide ((unhide O6).only k6)
  have N7 := hide ((unhide N6).only k6)
  have b6 := Nat.le_trans b5 k6.size
  clear h6 k6 x6 c10
  go_wp2_with fail
  refine (config_any base p s6 aoo aon no nn co cn old new (unhide HNO) (unhide HNN) (by have := unhide LL; omega) w6 (unhide H6) (unhide O7) (unhide N7) b6).mono ?_
  rintro e w7 ⟨rfl, h7, k7⟩
  have H7 : Hid (Wr base w7 p s7.1 s7.2) := by show Wr _ _ _ _ _; rw [← unhide ES7]; exact h7
  have K8 := hide ((unhide K7).trans k7)
  clear h7 k7 c11 c12
  go_wp2
  go_end0
  exact ⟨rfl, unhide H7, unhide K8⟩
end Go.Proofs.YtjplhiflemmkfaaGreatDoor
namespace Go.Proofs.YtjplhiflemmkfaaGreatDoor
open Go.RowKit

/-- what Encode answers of what a writer has. -/
def told (s : List Nat × Nat) : List Nat := if s.2 = 0 then s.1 else []

end Go.Proofs.YtjplhiflemmkfaaGreatDoor
namespace Go.Proofs.YtjplhiflemmkfaaGreatDoor
open Go.RowKit

set_option maxRecDepth 20000 in
set_option maxHeartbeats 1000000 in
theorem encM (from' to' gen kind term index last commit : Int) (yes : Bool) (aot : Option Addr) (nt ct : Nat) (terms : List Int) (hnt : terms.length = nt) (aoe : Option Addr) (ne ce : Nat) (es : List En) (hne : es.length = ne) (hnm : ne ≤ 9223372036854775807) (aoo aon : Option Addr) (no nn co cn : Nat) (old new : List Int) (hno : old.length = no) (hnn : new.length = nn) (w : World) (ht : ∀ w1, Below w.heap.size w w1 → Ints w.heap.size [5, 336] w1 aot terms) (he : ∀ w1, Below w.heap.size w w1 → Ents w.heap.size [5, 336] w1 aoe es) (ho : ∀ w1, Below w.heap.size w w1 → Ints w.heap.size [5, 336] w1 aoo old) (hw : ∀ w1, Below w.heap.size w w1 → Ints w.heap.size [5, 336] w1 aon new) (hS : Start w) :
    Calls Tryz.prog 246 #[.agg #[.int .i64 from', .int .i64 to', .int .i64 gen, .int .i64 kind, .int .i64 term, .int .i64 index, .int .i64 last, .int .i64 commit, .bool yes, .slice aot nt ct, .slice aoe ne ce, .slice aoo no co, .slice aon nn cn], .func (.func 247) #[] #[]] w fun e w' =>
      ∃ v, e = .returned (.tuple #[v, .int .i64 (((putMsg from' to' gen kind term index last commit yes terms es old new ([], 0)).2 : Nat) : Int)]) ∧ Own w.heap.size w' v (told (putMsg from' to' gen kind term index last commit yes terms es old new ([], 0))) ∧ Below w.heap.size w w' := by
  obtain ⟨w1, hw1⟩ : ∃ w1, (w.alloc (.cells #[.int .i64 from', .int .i64 to', .int .i64 gen, .int .i64 kind, .int .i64 term, .int .i64 index, .int .i64 last, .int .i64 commit, .bool yes, .slice aot nt ct, .slice aoe ne ce, .slice aoo no co, .slice aon nn cn] 50)).alloc (.cells #[.slice none 0 0, .nilIface] 336) = w1 := ⟨_, rfl⟩
  have b1 : Below w.heap.size w w1 := by rw [← hw1]; exact ((Below.refl _ w).alloc (Nat.le_refl _) _).alloc (by simp) _
  have hp1 : w1.heap[w.heap.size + 1]? = some (.cells #[.slice none 0 0, .nilIface] 336 (0, 0)) := by
    rw [← hw1]
    have h := heap_alloc_new (w.alloc (.cells #[.int .i64 from', .int .i64 to', .int .i64 gen, .int .i64 kind, .int .i64 term, .int .i64 index, .int .i64 last, .int .i64 commit, .bool yes, .slice aot nt ct, .slice aoe ne ce, .slice aoo no co, .slice aon nn cn] 50)) (.cells #[.slice none 0 0, .nilIface] 336)
    simpa using h
  have wr1 : Wr w.heap.size w1 (w.heap.size + 1) [] 0 := ⟨_, _, hp1, by omega, Own.nil _ _, Or.inl ⟨rfl, rfl⟩⟩
  have hcall := msg_any w.heap.size (w.heap.size + 1) ([], 0) from' to' gen kind term index last commit yes aot nt ct terms hnt aoe ne ce es hne hnm aoo aon no nn co cn old new hno hnn (by simp) w1 wr1 (ht w1 b1) (he w1 b1) (ho w1 b1) (hw w1 b1) b1.size
  have S1 := hide (hS.below b1)
  have ZG := hide hS.2.2
  have B1 := hide b1
  have HW1 := hide hw1
  obtain ⟨f, hf⟩ : ∃ f, putMsg from' to' gen kind term index last commit yes terms es old new ([], 0) = f := ⟨_, rfl⟩
  rw [hf] at hcall ⊢
  have HC := hide hcall
  clear b1 hp1 wr1 hw1 hS hf hcall ht he ho hw
  go_enter Tryz.func246, Tryz.ntmps246
  go_wp2_with fail
  rw [unhide HW1]
  refine (unhide HC).mono ?_
  rintro e w2 ⟨rfl, h2, k2⟩
  obtain ⟨v, ev, hp, _, ho, herr⟩ := h2
  obtain ⟨aob, capb, rfl, _⟩ := ho.slice
  have c1 : w2.cell? ⟨w.heap.size + 1, 1, none⟩ = some ev := (cell_of_block hp).trans rfl
  have c0 : w2.cell? ⟨w.heap.size + 1, 0, none⟩ = some (.slice aob f.1.length capb) := (cell_of_block hp).trans rfl
  have B2 := hide ((unhide B1).trans k2.below)
  have G2 := hide ((unhide S1).2.1.below k2.below (by have := unhide ZG; omega))
  have HO := hide ho
  obtain ⟨fb, fe⟩ := f
  simp only at c0 herr
  by_cases hz : fe = 0
  · subst hz
    obtain rfl := herr.none
    clear hp ho herr k2
    go_wp2
    go_ret2
    exact ⟨_, rfl, by show Own _ _ _ (told (fb, 0)); unfold told; rw [if_pos rfl]; exact unhide HO, unhide B2⟩
  · have E2 := hide herr.err
    rcases herr with ⟨h0, _⟩ | ⟨b, x, _, rfl, _⟩
    · exact absurd h0 hz
    clear hp ho k2
    go_wp2_with fail
    refine (number_any _ fe w2 (unhide G2) (unhide E2)).mono ?_
    rintro e w3 ⟨rfl, hb3⟩
    have B3 := hide hb3
    clear hb3
    go_wp2
    go_ret2
    refine ⟨_, rfl, ?_, (unhide B2).trans ((unhide B3).mono (unhide B2).size)⟩
    show Own _ _ _ (told (fb, fe))
    unfold told; rw [if_neg hz]; exact Own.nil _ _

end Go.Proofs.YtjplhiflemmkfaaGreatDoor
namespace Go.Proofs.YtjplhiflemmkfaaGreatDoor
open Go.RowKit

set_option maxRecDepth 20000 in
set_option maxHeartbeats 1000000 in
theorem encodeMsg_any (from' to' gen kind term index last commit : Int) (yes : Bool) (aot : Option Addr) (nt ct : Nat) (terms : List Int) (hnt : terms.length = nt) (aoe : Option Addr) (ne ce : Nat) (es : List En) (hne : es.length = ne) (hnm : ne ≤ 9223372036854775807) (aoo aon : Option Addr) (no nn co cn : Nat) (old new : List Int) (hno : old.length = no) (hnn : new.length = nn) (w : World) (ht : ∀ b w1, b ≤ w1.heap.size → w.heap.size ≤ b → Below w.heap.size w w1 → Ints b [5, 336] w1 aot terms) (he : ∀ b w1, b ≤ w1.heap.size → w.heap.size ≤ b → Below w.heap.size w w1 → Ents b [5, 336] w1 aoe es) (ho : ∀ b w1, b ≤ w1.heap.size → w.heap.size ≤ b → Below w.heap.size w w1 → Ints b [5, 336] w1 aoo old) (hw : ∀ b w1, b ≤ w1.heap.size → w.heap.size ≤ b → Below w.heap.size w w1 → Ints b [5, 336] w1 aon new) (hS : Start w) :
    Calls Tryz.prog 193 #[.agg #[.int .i64 from', .int .i64 to', .int .i64 gen, .int .i64 kind, .int .i64 term, .int .i64 index, .int .i64 last, .int .i64 commit, .bool yes, .slice aot nt ct, .slice aoe ne ce, .slice aoo no co, .slice aon nn cn]] w fun e w' =>
      ∃ v, e = .returned (.tuple #[v, .int .i64 (((putMsg from' to' gen kind term index last commit yes terms es old new ([], 0)).2 : Nat) : Int)]) ∧ Own w.heap.size w' v (told (putMsg from' to' gen kind term index last commit yes terms es old new ([], 0))) ∧ Below w.heap.size w w' := by
  obtain ⟨w1, hw1⟩ : ∃ w1, w.alloc (.cells #[.int .i64 from', .int .i64 to', .int .i64 gen, .int .i64 kind, .int .i64 term, .int .i64 index, .int .i64 last, .int .i64 commit, .bool yes, .slice aot nt ct, .slice aoe ne ce, .slice aoo no co, .slice aon nn cn] 50) = w1 := ⟨_, rfl⟩
  have b1 : Below w.heap.size w w1 := by rw [← hw1]; exact (Below.refl _ w).alloc (Nat.le_refl _) _
  have hcall := encM from' to' gen kind term index last commit yes aot nt ct terms hnt aoe ne ce es hne hnm aoo aon no nn co cn old new hno hnn w1 (fun w2 hb2 => ht w1.heap.size w2 hb2.size b1.size (b1.trans (hb2.mono b1.size))) (fun w2 hb2 => he w1.heap.size w2 hb2.size b1.size (b1.trans (hb2.mono b1.size))) (fun w2 hb2 => ho w1.heap.size w2 hb2.size b1.size (b1.trans (hb2.mono b1.size))) (fun w2 hb2 => hw w1.heap.size w2 hb2.size b1.size (b1.trans (hb2.mono b1.size))) (hS.below b1)
  have S1 := hide (hS.below b1)
  have B1 := hide b1
  have HW1 := hide hw1
  obtain ⟨f, hf⟩ : ∃ f, putMsg from' to' gen kind term index last commit yes terms es old new ([], 0) = f := ⟨_, rfl⟩
  rw [hf] at hcall ⊢
  have HC := hide hcall
  clear b1 hw1 hS hf hcall ht he ho hw
  go_enter Tryz.func193, Tryz.ntmps193
  go_wp2_with fail
  rw [unhide HW1]
  refine (unhide HC).mono ?_
  rintro e w2 ⟨v, rfl, ho, hb⟩
  have HO := hide (ho.rebase (unhide B1).size)
  have B2 := hide ((unhide B1).trans (hb.mono (unhide B1).size))
  clear ho hb
  go_wp2
  go_ret2
  exact ⟨_, rfl, unhide HO, unhide B2⟩

end Go.Proofs.YtjplhiflemmkfaaGreatDoor
namespace Go.Proofs.YtjplhiflemmkfaaGreatDoor
open Go.RowKit

theorem putRule_err (q : Nat) (n : Int) (s : List Nat × Nat) : (putRule q n s).2 = if s.2 ≠ 0 then s.2 else refuse q n := by
  unfold putRule
  by_cases h : s.2 ≠ 0
  · rw [if_pos h, if_pos h]
  · rw [if_neg h, if_neg h]
    by_cases h2 : refuse q n ≠ 0
    · rw [if_pos h2]
    · rw [if_neg h2]; simp at h2; simp [h2]
theorem putList_err (q : Nat) (ys : List Int) (s : List Nat × Nat) : (putList q ys s).2 = if s.2 ≠ 0 then s.2 else refuse q ys.length := by
  unfold putList
  by_cases h : s.2 = 0 ∧ refuse q ys.length = 0
  · rw [if_pos h, if_neg (by simp [h.1]), h.2]
  · rw [if_neg h]; exact putRule_err q _ s
theorem putText_err (t : ByteArray) (s : List Nat × Nat) : (putText t s).2 = if s.2 ≠ 0 then s.2 else refuse 4 t.size := by
  unfold putText
  by_cases h : s.2 = 0 ∧ refuse 4 t.size = 0
  · rw [if_pos h, if_neg (by simp [h.1]), h.2]
  · rw [if_neg h]; exact putRule_err 4 _ s
theorem putInts_err (ys : List Int) (s : List Nat × Nat) : (putInts ys s).2 = s.2 := rfl
/-- the first of some numbers that is not 0. -/
def firstOf : List Nat → Nat
  | [] => 0
  | x :: l => if x ≠ 0 then x else firstOf l
theorem putEntry_err (kind client seq : Int) (t : ByteArray) (ys : List Int) (to' : Int) (s : List Nat × Nat) : (putEntry kind client seq t ys to' s).2 = firstOf [s.2, refuse 0 kind, refuse 4 t.size, refuse 5 ys.length, refuse 1 to'] := by
  unfold putEntry
  rw [putRule_err, putList_err, putText_err, putInts_err, putRule_err]
  simp only [firstOf]
  by_cases h0 : s.2 = 0 <;> by_cases h1 : refuse 0 kind = 0 <;> by_cases h2 : refuse 4 (t.size : Int) = 0 <;> by_cases h3 : refuse 5 (ys.length : Int) = 0 <;> by_cases h4 : refuse 1 to' = 0 <;> simp [h0, h1, h2, h3, h4]
/-- an entry of zeros. -/
def zeroE : En := ⟨0, 0, 0, ByteArray.empty, [], 0⟩
theorem putE_zero (s : List Nat × Nat) : (putE zeroE s).2 = s.2 := by
  unfold putE zeroE
  rw [putEntry_err]
  have e : ∀ x, firstOf [x, refuse 0 0, refuse 4 (ByteArray.empty.size : Int), refuse 5 ((([] : List Int).length : Nat) : Int), refuse 1 0] = x := by
    intro x
    have h0 : refuse 0 0 = 0 := by decide
    have h1 : refuse 4 (ByteArray.empty.size : Int) = 0 := by decide
    have h2 : refuse 5 ((([] : List Int).length : Nat) : Int) = 0 := by decide
    have h3 : refuse 1 0 = 0 := by decide
    simp only [firstOf, h0, h1, h2, h3]
    by_cases hx : x = 0 <;> simp [hx]
  exact e s.2
theorem putEs_zero (n : Nat) : ∀ s : List Nat × Nat, (putEs (List.replicate n zeroE) s).2 = s.2 := by
  induction n with
  | zero => intro s; rfl
  | succ n ih => intro s; rw [List.replicate_succ]; show (putEs (List.replicate n zeroE) (putE zeroE s)).2 = _; rw [ih, putE_zero]
theorem putEntries_zero (n : Nat) (s : List Nat × Nat) : (putEntries (List.replicate n zeroE) s).2 = if s.2 ≠ 0 then s.2 else refuse 6 n := by
  unfold putEntries
  rw [List.length_replicate]
  by_cases h : s.2 = 0 ∧ refuse 6 n = 0
  · rw [if_pos h, if_neg (by simp [h.1]), putEs_zero, putRule_err, if_neg (by simp [h.1])]
  · rw [if_neg h]; exact putRule_err 6 _ s
theorem putMsg_err (kind : Int) (terms : List Int) (n : Nat) : (putMsg 0 0 0 kind 0 0 0 0 false terms (List.replicate n zeroE) [] [] ([], 0)).2 = firstOf [refuse 2 kind, refuse 6 terms.length, refuse 6 n] := by
  unfold putMsg putConfig
  rw [putList_err, putList_err, putEntries_zero, putList_err, putRule_err, putInts_err, putRule_err, putInts_err]
  have h3 : refuse 3 (bitOf false) = 0 := by decide
  have h5 : refuse 5 ((([] : List Int).length : Nat) : Int) = 0 := by decide
  rw [h3, h5]
  simp only [firstOf]
  by_cases h1 : refuse 2 kind = 0 <;> by_cases h2 : refuse 6 (terms.length : Int) = 0 <;> by_cases h4 : refuse 6 (n : Int) = 0 <;> simp [h1, h2, h4]
theorem putConfig_err (n : Nat) : (putConfig [] (List.replicate n 0) ([], 0)).2 = refuse 5 n := by
  unfold putConfig
  rw [putList_err, putList_err, List.length_replicate]
  have h5 : refuse 5 ((([] : List Int).length : Nat) : Int) = 0 := by decide
  rw [h5]; simp

/-- bytes as a string. -/
def str (bs : List Nat) : ByteArray := strOfNums (bs.map Int.ofNat)
theorem conv_str {w : World} {ao : Option Addr} {n cap : Nat} {bs : List Nat} (hb : Bytes w ao bs) (hn : bs.length = n) :
    (convert 55 9 (.slice ao n cap)).run Tryz.prog w = .ok (.string (str bs)) w := by
  subst hn
  cases ao with
  | none =>
    obtain rfl := hb.none_nil
    exact run_convert_bytes_nil w 55 5 Tryz.underlying55 Tryz.underlying5 _ _ 9 Tryz.underlying9
  | some a =>
    have hl : (loadCells a bs.length).run Tryz.prog w = .ok ((bs.map Int.ofNat).map (Value.int .u8)).toArray w := by
      have := run_loadCells_list (P := Tryz.prog) w a ((bs.map Int.ofNat).map (Value.int .u8)) (fun j v hj => hb.news j v (by simpa [u8s] using hj))
      simpa using this
    rw [run_convert_bytes_string w 55 9 5 _ _ cap Tryz.underlying55 Tryz.underlying5 Tryz.underlying9, run_bytesToString w _ _ cap (bs.map Int.ofNat) hl, foldl_push_bytes]
    simp [str, strOfNums, ByteArray.empty, ByteArray.emptyWithCapacity]
    rfl
theorem str_size (bs : List Nat) : (str bs).size = bs.length := by simp [str, strOfNums, ByteArray.size]
/-- zeros. -/
def zeros (n : Nat) : List Nat := List.replicate n 0
theorem zeros_cells (n : Nat) : (madeCells #[Value.int .u8 0] n).toList = u8s (zeros n) := by rw [toList_madeCells_one, zeros, u8s, List.map_replicate]; rfl
theorem zeros_at {w : World} {b n : Nat} {fr : Nat × Nat} (h : w.heap[b]? = some (.cells (madeCells #[Value.int .u8 0] n) 5 fr)) : Bytes w (some ⟨b, 0, none⟩) (zeros n) := by
  refine ⟨fun x hx => by have := List.eq_of_mem_replicate hx; omega, fun i hi => ⟨_, rfl, ?_⟩⟩
  rw [Addr.add_lit]
  simp only [World.cell?, h, Nat.zero_add]
  have e : (madeCells #[Value.int .u8 0] n)[i]? = (u8s (zeros n))[i]? := by rw [← zeros_cells]; simp
  rw [e, u8s, List.getElem?_map, List.getD_eq_getElem?_getD, List.getElem?_eq_getElem hi]; rfl
theorem Tryz.info3 : (Tryz.prog.info? 3).map (fun i => (i.zero, i.size, i.bytes)) = some (some (.int .i64 0), 1, 8) := by kernel_rfl
theorem make_bytes (n : Nat) (h : n ≤ 1000000) (w : World) : (Instr.makeSlice 55 (.int .i64 (n : Int)) (.int .i64 (n : Int))).run Tryz.prog w = .ok (.slice (some ⟨w.heap.size, 0, none⟩) n n) (w.alloc (.cells (madeCells #[.int .u8 0] n) 5)) :=
  run_make_row' 55 5 (.int .u8 0) 1 Tryz.underlying55 Tryz.info5 rfl .i64 .i64 n (by omega) (by omega) w
theorem make_ints (n : Nat) (h : n ≤ 1000000) (w : World) : (Instr.makeSlice 24 (.int .i64 (n : Int)) (.int .i64 (n : Int))).run Tryz.prog w = .ok (.slice (some ⟨w.heap.size, 0, none⟩) n n) (w.alloc (.cells (madeCells #[.int .i64 0] n) 3)) :=
  run_make_row' 24 3 (.int .i64 0) 8 Tryz.underlying24 Tryz.info3 rfl .i64 .i64 n (by omega) (by omega) w
/-- the cells of an entry of zeros. -/
def zcells : Array Value := #[.int .i64 0, .int .i64 0, .int .i64 0, .string ByteArray.empty, .slice none 0 0, .int .i64 0]
theorem Tryz.infoE : (Tryz.prog.info? 43).map (fun i => (i.zero, i.size, i.bytes)) = some (some (.agg zcells), 6, 72) := by kernel_rfl
theorem make_ents (n : Nat) (h : n ≤ 1000000) (w : World) : (Instr.makeSlice 48 (.int .i64 (n : Int)) (.int .i64 (n : Int))).run Tryz.prog w = .ok (.slice (some ⟨w.heap.size, 0, none⟩) n n) (w.alloc (.cells (madeCells zcells (n * 6)) 43)) := by
  obtain ⟨i, hi, hz0, hz1, hz2⟩ := info_parts Tryz.infoE
  have := run_make (P := Tryz.prog) w 48 43 i (.agg zcells) Tryz.underlying48 hi hz0 .i64 .i64 n n (by omega) (by omega) (by rw [hz2]; omega) (by omega)
  rw [hz1] at this
  simpa [Value.cells] using this
section
variable (w : World) (o1 o2 o3 : Obj)
theorem h3c : (((w.alloc o1).alloc o2).alloc o3).drew.heap[w.heap.size + 1 + 1]? = some o3 := by
  have h := heap_alloc_new ((w.alloc o1).alloc o2) o3
  rw [show ((w.alloc o1).alloc o2).heap.size = w.heap.size + 1 + 1 by simp] at h; exact h
theorem h3b : (((w.alloc o1).alloc o2).alloc o3).drew.heap[w.heap.size + 1]? = some o2 := by
  have h := heap_alloc_new (w.alloc o1) o2
  rw [show (w.alloc o1).heap.size = w.heap.size + 1 by simp] at h
  exact (Below.heap_alloc ((w.alloc o1).alloc o2) o3 (w.heap.size + 1) (by simp)).trans h
theorem h3a : (((w.alloc o1).alloc o2).alloc o3).drew.heap[w.heap.size]? = some o1 :=
  ((Below.heap_alloc ((w.alloc o1).alloc o2) o3 w.heap.size (by simp; omega)).trans (Below.heap_alloc (w.alloc o1) o2 w.heap.size (by simp))).trans (heap_alloc_new w o1)
theorem h3below : Below w.heap.size w (((w.alloc o1).alloc o2).alloc o3).drew :=
  ((((Below.refl _ w).alloc (Nat.le_refl _) o1).alloc (by simp) o2).alloc (by simp; omega) o3).drew
end
theorem blk_lt' {w : World} {p : Nat} {o : Obj} (h : w.heap[p]? = some o) : p < w.heap.size := by
  by_cases hp : p < w.heap.size
  · exact hp
  · rw [Array.getElem?_eq_none (by omega)] at h; cases h
theorem ints_cell {w : World} {b n : Nat} {fr : Nat × Nat} (h : w.heap[b]? = some (.cells (madeCells #[Value.int .i64 0] n) 3 fr)) : ∀ i, i < (List.replicate n (0 : Int)).length → ∃ a, some (⟨b, 0, none⟩ : Addr) = some a ∧ w.cell? (a.add i) = some (.int .i64 ((List.replicate n (0 : Int)).getD i 0)) := by
  intro i hi
  rw [List.length_replicate] at hi
  refine ⟨_, rfl, ?_⟩
  rw [Addr.add_lit, Nat.zero_add, cell_of_block h]
  have e : (madeCells #[Value.int .i64 0] n)[i]? = (List.replicate n (Value.int .i64 0))[i]? := by rw [← toList_madeCells_one]; simp
  rw [e, List.getElem?_replicate, if_pos hi, List.getD_eq_getElem?_getD, List.getElem?_replicate, if_pos hi]; rfl
theorem ints_zero {w : World} {b n base : Nat} {fr : Nat × Nat} (h : w.heap[b]? = some (.cells (madeCells #[Value.int .i64 0] n) 3 fr)) : Ints base [5, 336] w (some ⟨b, 0, none⟩) (List.replicate n 0) := by
  intro i hi
  obtain ⟨a, e, hc⟩ := ints_cell h i hi
  cases e
  exact ⟨_, rfl, hc, Or.inr ⟨_, _, _, h, by decide⟩⟩
theorem made_get (n i j : Nat) (hi : i < n) (hj : j < 6) : (madeCells zcells (n * 6))[i * 6 + j]? = zcells[j]? := by
  have h1 : i * 6 + j < n * 6 := by omega
  have h2 : (i * 6 + j) % 6 = j := by omega
  unfold madeCells
  rw [Array.getElem?_map, Array.getElem?_eq_getElem (by simpa using h1)]
  simp only [Array.getElem_range, Option.map_some]
  have hs : zcells.size = 6 := rfl
  rw [hs, h2, getElem!_pos zcells j (by rw [hs]; exact hj), Array.getElem?_eq_getElem (by rw [hs]; exact hj)]
theorem ents_zero {w : World} {b n base : Nat} {fr : Nat × Nat} (h : w.heap[b]? = some (.cells (madeCells zcells (n * 6)) 43 fr)) : Ents base [5, 336] w (some ⟨b, 0, none⟩) (List.replicate n zeroE) := by
  intro i hi
  rw [List.length_replicate] at hi
  have eg : (List.replicate n zeroE).getD i default = zeroE := by rw [List.getD_eq_getElem?_getD, List.getElem?_replicate, if_pos hi]; rfl
  have hc : ∀ j, j < 6 → w.cell? ⟨b, i * 6 + j, none⟩ = zcells[j]? := fun j hj => by rw [cell_of_block h]; exact made_get n i j hi hj
  rw [eg]
  refine ⟨b, 0, none, 0, rfl, ?_, ?_, ?_, ?_, ?_, ?_, ?_, by decide, Or.inr ⟨_, _, _, h, by decide⟩⟩
  · rw [Nat.zero_add]; exact hc 0 (by decide)
  · rw [Nat.zero_add]; exact hc 1 (by decide)
  · rw [Nat.zero_add]; exact hc 2 (by decide)
  · rw [Nat.zero_add]; exact hc 3 (by decide)
  · rw [Nat.zero_add]; exact hc 4 (by decide)
  · rw [Nat.zero_add]; exact hc 5 (by decide)
  · intro i hi; simp [zeroE] at hi
end Go.Proofs.YtjplhiflemmkfaaGreatDoor
