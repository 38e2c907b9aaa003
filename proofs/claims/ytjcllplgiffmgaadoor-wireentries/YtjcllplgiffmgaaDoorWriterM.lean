/- wire's writer: entries, a message: contracts. -/
import Derived.Test.YtjcllplgiffmgaaDoorWriterC
namespace Go.Proofs.YtjcllplgiffmgaaDoor
open Go.RowKit

structure En where
  kind : Int
  client : Int
  seq : Int
  text : ByteArray
  ms : List Int
  to : Int
instance : Inhabited En := ⟨⟨0, 0, 0, ByteArray.empty, [], 0⟩⟩
def putE (e : En) (s : List Nat × Nat) : List Nat × Nat := putEntry e.kind e.client e.seq e.text e.ms e.to s
def putEs (es : List En) (s : List Nat × Nat) : List Nat × Nat := es.foldl (fun s e => putE e s) s
def putEntries (es : List En) (s : List Nat × Nat) : List Nat × Nat :=
  if s.2 = 0 ∧ refuse 6 es.length = 0 then putEs es (putRule 6 es.length s) else putRule 6 es.length s
theorem putE_len (e : En) (s : List Nat × Nat) : (putE e s).1.length ≤ s.1.length + 600 := by
  have h1 := putRule_len 0 e.kind s
  have h2 : (putInts [e.client, e.seq] (putRule 0 e.kind s)).1.length = (putRule 0 e.kind s).1.length + 16 := by unfold putInts; rw [List.length_append, nums_len]; rfl
  have h3 := putText_len e.text (putInts [e.client, e.seq] (putRule 0 e.kind s))
  have h4 := putList_len 5 e.ms (putText e.text (putInts [e.client, e.seq] (putRule 0 e.kind s)))
  have h5 := putRule_len 1 e.to (putList 5 e.ms (putText e.text (putInts [e.client, e.seq] (putRule 0 e.kind s))))
  unfold putE putEntry
  omega
theorem putEs_len : ∀ (es : List En) (s : List Nat × Nat), (putEs es s).1.length ≤ s.1.length + 600 * es.length
  | [], s => by simp [putEs]
  | e :: es, s => by
    have h1 := putEs_len es (putE e s)
    have h2 := putE_len e s
    have e1 : putEs (e :: es) s = putEs es (putE e s) := rfl
    rw [e1]
    simp only [List.length_cons]
    omega
theorem putEs_snoc (es : List En) (e : En) (s : List Nat × Nat) : putEs (es ++ [e]) s = putE e (putEs es s) := by simp [putEs]

/-- a slice's entries, which stay. -/
def Ents (base : Nat) (ts : List TypeId) (w : World) (ao : Option Addr) (es : List En) : Prop :=
  ∀ i, i < es.length → ∃ blk off r cx, ao = some ⟨blk, off, none⟩ ∧ w.cell? ⟨blk, off + i * 6, none⟩ = some (.int .i64 (es.getD i default).kind) ∧ w.cell? ⟨blk, off + i * 6 + 1, none⟩ = some (.int .i64 (es.getD i default).client) ∧ w.cell? ⟨blk, off + i * 6 + 2, none⟩ = some (.int .i64 (es.getD i default).seq) ∧
    w.cell? ⟨blk, off + i * 6 + 3, none⟩ = some (.string (es.getD i default).text) ∧ w.cell? ⟨blk, off + i * 6 + 4, none⟩ = some (.slice r (es.getD i default).ms.length cx) ∧ w.cell? ⟨blk, off + i * 6 + 5, none⟩ = some (.int .i64 (es.getD i default).to) ∧
    Ints base ts w r (es.getD i default).ms ∧ (es.getD i default).text.size ≤ maxLen ∧ Stay base ts w blk
theorem Ents.only {base : Nat} {ts : List TypeId} {w w' : World} {ao : Option Addr} {es : List En} (h : Ents base ts w ao es) (ho : Only base ts w w') : Ents base ts w' ao es := fun i hi => by
  obtain ⟨blk, off, r, cx, e, h0, h1, h2, h3, h4, h5, hm, ht, hs⟩ := h i hi
  have hc : ∀ o, w'.cell? ⟨blk, o, none⟩ = w.cell? ⟨blk, o, none⟩ := fun o => World.cell?_of_block (w := w) (a := ⟨blk, o, none⟩) (hs.heap ho)
  exact ⟨blk, off, r, cx, e, by rw [hc]; exact h0, by rw [hc]; exact h1, by rw [hc]; exact h2, by rw [hc]; exact h3, by rw [hc]; exact h4, by rw [hc]; exact h5, hm.only ho, ht, hs.only ho⟩

set_option maxRecDepth 20000 in
set_option maxHeartbeats 1000000 in
theorem entries_any (base p : Nat) (s : List Nat × Nat) (ao : Option Addr) (n cap : Nat) (es : List En) (hn : es.length = n) (hnm : n ≤ 9223372036854775807) (hl : s.1.length ≤ 700000000) (w : World) (h : Wr base w p s.1 s.2) (hy : Ents base [5, 105] w ao es) (hbase : base ≤ w.heap.size) :
    Calls Tryd.prog 68 #[.pointer (some ⟨p, 0, none⟩), .slice ao n cap] w fun e w' => e = .returned (.tuple #[]) ∧ Wr base w' p (putEntries es s).1 (putEntries es s).2 ∧ Only base [5, 105] w w' := by
  have HW := hide h
  have HY := hide hy
  have HN := hide hn
  clear h hy hn
  by_cases hc : s.2 = 0 ∧ refuse 6 n = 0
  · have e1 : putEntries es s = putEs es (putRule 6 n s) := by unfold putEntries; rw [unhide HN, if_pos hc]
    have hr := (refuse_range hc.2).2
    have hd : decide (s.2 = 0 ∧ refuse 6 n = 0) = true := decide_eq_true hc
    have hpl := putRule_len 6 n s
    rw [e1]
    have HD := hide hd
    clear e1 hc hd
    go_enter Tryd.func68, Tryd.ntmps68
    go_wp2_with fail
    refine (ruled_any base p 6 (by decide) s n (by omega) w (unhide HW) hbase).mono ?_
    rw [unhide HD]
    rintro e w1 ⟨rfl, h1, k1⟩
    have H1 := hide h1
    have K1 := hide k1
    have s1 : base ≤ w1.heap.size := Nat.le_trans hbase k1.size
    have Y1 := hide ((unhide HY).only k1)
    clear h1 k1 HY
    go_wp2_with fail
    go_loopg [13] n (fun g iv wr => ∃ k : Nat, k + g = n ∧ iv = .int .i64 (k : Int) ∧ Wr base wr p (putEs (es.take k) (putRule 6 n s)).1 (putEs (es.take k) (putRule 6 n s)).2 ∧ Only base [5, 105] w1 wr)
    case atStart => exact ⟨0, by omega, rfl, unhide H1, Only.refl _ _ _⟩
    case round =>
      obtain ⟨k, hg, rfl, hwr, hon⟩ := hrel
      have HG := hide hg
      have HO := hide hon
      have HWR := hide hwr
      have hkn : k ≤ n := by omega
      clear hg hon hwr H1
      by_cases hlt : k < n
      · obtain ⟨blk, off, r, cx, rfl, h0, h1, h2, h3, h4, h5, hm, ht, _⟩ := ((unhide Y1).only (unhide HO)) k (by rw [unhide HN]; exact hlt)
        have hs : es.take (k + 1) = es.take k ++ [es.getD k default] := take_succ es default k (by rw [unhide HN]; exact hlt)
        generalize es.getD k default = en at *
        obtain ⟨kind, client, seq, text, ms, to'⟩ := en
        simp only at h0 h1 h2 h3 h4 h5 hm ht
        have hlen := putEs_len (es.take k) (putRule 6 n s)
        rw [List.length_take, unhide HN] at hlen
        obtain ⟨lm, elm⟩ : ∃ lm, ms.length = lm := ⟨_, rfl⟩
        rw [elm] at h4
        have s2 : base ≤ wr.heap.size := Nat.le_trans s1 (unhide HO).size
        have ka : Only base [5, 105] wr (wr.alloc (.cells #[.int .i64 kind, .int .i64 client, .int .i64 seq, .string text, .slice r lm cx, .int .i64 to'] 24)) := (Only.refl _ _ _).alloc s2 _
        have WA := hide ((unhide HWR).below ((Below.refl _ wr).alloc (Nat.le_refl _) (.cells #[.int .i64 kind, .int .i64 client, .int .i64 seq, .string text, .slice r lm cx, .int .i64 to'] 24)))
        have MA := hide (hm.only ka)
        have SA := hide (Nat.le_trans s2 ka.size)
        have KA := hide ((unhide HO).trans ka)
        have HS := hide hs
        have ELM := hide elm
        have HT := hide ht
        have HLEN := hide hlen
        clear hs ka hm elm ht hlen
        go_wp2_with fail
        refine (entry_any base p (putEs (es.take k) (putRule 6 n s)) kind client seq to' text (unhide HT) r lm cx ms (unhide ELM) (by have := unhide HLEN; omega) _ (unhide WA) (unhide MA) (unhide SA)).mono ?_
        rintro e w3 ⟨rfl, h6, k6⟩
        have H6 : Hid (Wr base w3 p (putEs (es.take (k + 1)) (putRule 6 n s)).1 (putEs (es.take (k + 1)) (putRule 6 n s)).2) := by
          show Wr _ _ _ _ _
          rw [unhide HS, putEs_snoc]; exact h6
        have K6 := hide ((unhide KA).trans k6)
        clear h6 k6 h0 h1 h2 h3 h4 h5
        go_wp2
        go_roundg (n - (k + 1))
        case measure => have := unhide HG; omega
        case rel => exact ⟨k + 1, by omega, by go_num, unhide H6, unhide K6⟩
      · obtain rfl : k = n := by omega
        have et : es.take k = es := by rw [← unhide HN, List.take_length]
        have HET := hide et
        clear et
        go_wp2
        go_end0
        have h6 := unhide HWR
        rw [unhide HET] at h6
        exact ⟨rfl, h6, (unhide K1).trans (unhide HO)⟩
  · have e1 : putEntries es s = putRule 6 n s := by unfold putEntries; rw [unhide HN, if_neg hc]
    have hd : decide (s.2 = 0 ∧ refuse 6 n = 0) = false := decide_eq_false hc
    rw [e1]
    have HD := hide hd
    clear e1 hc hd
    go_enter Tryd.func68, Tryd.ntmps68
    go_wp2_with fail
    refine (ruled_any base p 6 (by decide) s n (by omega) w (unhide HW) hbase).mono ?_
    rw [unhide HD]
    rintro e w1 ⟨rfl, h1, k1⟩
    have H1 := hide h1
    have K1 := hide k1
    clear h1 k1
    go_wp2
    (try simp only [Exit.inBlock, Exit.then])
    refine bodyPost_ret (results_none rfl _ _ _) rfl ?_
    exact ⟨rfl, unhide H1, unhide K1⟩
end Go.Proofs.YtjcllplgiffmgaaDoor
