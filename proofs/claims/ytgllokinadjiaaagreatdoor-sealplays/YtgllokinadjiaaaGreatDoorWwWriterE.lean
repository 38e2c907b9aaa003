/- wire's writer: a text, an entry: contracts. wire's writer: an entry; EncodeEntry: contracts. wire's writer: a configuration: a contract. wire's writer: entries, a message: contracts. -/
import Derived.Test.YtgllokinadjiaaaGreatDoorWwReader
import Derived.Lib.AppendStr
namespace Go.Proofs.YtgllokinadjiaaaGreatDoor.Ww
open Go.RowKit

def bytesOf (t : ByteArray) : List Nat := t.data.toList.map UInt8.toNat
theorem bytesOf_cells (t : ByteArray) : u8s (bytesOf t) = Lib.strCells t := by simp [u8s, bytesOf, Lib.strCells]
theorem bytesOf_lt (t : ByteArray) : ∀ x ∈ bytesOf t, x < 256 := by
  intro x hx
  simp only [bytesOf, List.mem_map] at hx
  obtain ⟨b, _, rfl⟩ := hx
  exact b.toNat_lt
theorem bytesOf_len (t : ByteArray) : (bytesOf t).length = t.size := by rw [bytesOf, List.length_map]; rfl
def putText (t : ByteArray) (s : List Nat × Nat) : List Nat × Nat :=
  if s.2 = 0 ∧ refuse 4 t.size = 0 then ((putRule 4 t.size s).1 ++ bytesOf t, 0) else putRule 4 t.size s

theorem Wr.below {base : Nat} {w w' : World} {p : Nat} {bs : List Nat} {er : Nat} (h : Wr base w p bs er) (hb : Below w.heap.size w w') : Wr base w' p bs er := by
  obtain ⟨v, ev, hp, hbp, ho, herr⟩ := h
  have k : Only 0 [] w w' := Only.of_below hb (Nat.zero_le _)
  exact ⟨v, ev, k.block hp (by simp), hbp, ho.below hb, herr.only k (by simp)⟩

end Go.Proofs.YtgllokinadjiaaaGreatDoor.Ww
namespace Go.Proofs.YtgllokinadjiaaaGreatDoor.Ww
open Go.RowKit

def putInts (ys : List Int) (s : List Nat × Nat) : List Nat × Nat := (s.1 ++ nums ys, s.2)
def putEntry (kind client seq : Int) (t : ByteArray) (ys : List Int) (to' : Int) (s : List Nat × Nat) : List Nat × Nat :=
  putRule 1 to' (putList 5 ys (putText t (putInts [client, seq] (putRule 0 kind s))))
theorem putText_len (t : ByteArray) (s : List Nat × Nat) : (putText t s).1.length ≤ s.1.length + 65 := by
  have := putRule_len 4 t.size s
  unfold putText; split
  · rename_i h
    have := (refuse_range h.2).2
    simp only [List.length_append, bytesOf_len]; omega
  · omega
theorem putList_len (q : Nat) (ys : List Int) (s : List Nat × Nat) : (putList q ys s).1.length ≤ s.1.length + 513 := by
  have := putRule_len q ys.length s
  unfold putList; split
  · rename_i h
    have := (refuse_range h.2).2
    simp only [List.length_append, nums_len]; omega
  · omega

end Go.Proofs.YtgllokinadjiaaaGreatDoor.Ww
namespace Go.Proofs.YtgllokinadjiaaaGreatDoor.Ww
open Go.RowKit

def putConfig (xs ys : List Int) (s : List Nat × Nat) : List Nat × Nat := putList 5 ys (putList 5 xs s)

set_option maxRecDepth 20000 in
set_option maxHeartbeats 1000000 in
theorem config_any (base p : Nat) (s : List Nat × Nat) (ao bo : Option Addr) (n m ca cb : Nat) (xs ys : List Int) (hn : xs.length = n) (hm : ys.length = m) (hl : s.1.length ≤ 800000000) (w : World) (h : Wr base w p s.1 s.2) (hx : Ints base [5, 117] w ao xs) (hy : Ints base [5, 117] w bo ys) (hbase : base ≤ w.heap.size) :
    Calls Tryz.prog 53 #[.pointer (some ⟨p, 0, none⟩), .agg #[.slice ao n ca, .slice bo m cb]] w fun e w' => e = .returned (.tuple #[]) ∧ Wr base w' p (putConfig xs ys s).1 (putConfig xs ys s).2 ∧ Only base [5, 117] w w' := by
  have W0 := hide (h.below ((Below.refl _ w).alloc (Nat.le_refl _) (.cells #[.slice ao n ca, .slice bo m cb] 24)))
  have k0 : Only base [5, 117] w (w.alloc (.cells #[.slice ao n ca, .slice bo m cb] 24)) := (Only.refl _ _ _).alloc hbase _
  have K0 := hide k0
  have X0 := hide (hx.only k0)
  have Y0 := hide (hy.only k0)
  have B0 := hide (heap_alloc_new w (.cells #[.slice ao n ca, .slice bo m cb] 24))
  have S0 := hide (Nat.le_trans hbase k0.size)
  have HN := hide hn
  have HM := hide hm
  have L1 := hide (putList_len 5 xs s)
  clear h hx hy k0 hn hm
  go_enter Tryz.func53, Tryz.ntmps53
  go_wp2_with fail
  refine (list_any base p 5 (by decide) s ao n ca xs (unhide HN) (by omega) _ (unhide W0) (unhide X0) (unhide S0)).mono ?_
  rintro e w1 ⟨rfl, h1, k1⟩
  have x1 := k1.block (unhide B0) (by decide)
  have c1 : w1.cell? ⟨w.heap.size, 1, none⟩ = some (.slice bo m cb) := (cell_of_block x1).trans rfl
  have H1 := hide h1
  have K1 := hide ((unhide K0).trans k1)
  have Y1 := hide ((unhide Y0).only k1)
  have s1 : base ≤ w1.heap.size := Nat.le_trans (unhide S0) k1.size
  clear h1 x1 k1
  go_wp2_with fail
  refine (list_any base p 5 (by decide) _ bo m cb ys (unhide HM) (by have := unhide L1; omega) w1 (unhide H1) (unhide Y1) s1).mono ?_
  rintro e w2 ⟨rfl, h2, k2⟩
  have H2 := hide h2
  have K2 := hide ((unhide K1).trans k2)
  clear h2 k2 c1
  go_wp2
  go_end0
  exact ⟨rfl, unhide H2, unhide K2⟩
end Go.Proofs.YtgllokinadjiaaaGreatDoor.Ww
namespace Go.Proofs.YtgllokinadjiaaaGreatDoor.Ww
open Go.RowKit

structure En where
  kind : Int
  client : Int
  seq : Int
  text : ByteArray
  ms : List Int
  dst : Int
instance : Inhabited En := ⟨⟨0, 0, 0, ByteArray.empty, [], 0⟩⟩
def putE (e : En) (s : List Nat × Nat) : List Nat × Nat := putEntry e.kind e.client e.seq e.text e.ms e.dst s
def putEs (es : List En) (s : List Nat × Nat) : List Nat × Nat := es.foldl (fun s e => putE e s) s
def putEntries (es : List En) (s : List Nat × Nat) : List Nat × Nat :=
  if s.2 = 0 ∧ refuse 6 es.length = 0 then putEs es (putRule 6 es.length s) else putRule 6 es.length s
theorem putE_len (e : En) (s : List Nat × Nat) : (putE e s).1.length ≤ s.1.length + 600 := by
  have h1 := putRule_len 0 e.kind s
  have h2 : (putInts [e.client, e.seq] (putRule 0 e.kind s)).1.length = (putRule 0 e.kind s).1.length + 16 := by unfold putInts; rw [List.length_append, nums_len]; rfl
  have h3 := putText_len e.text (putInts [e.client, e.seq] (putRule 0 e.kind s))
  have h4 := putList_len 5 e.ms (putText e.text (putInts [e.client, e.seq] (putRule 0 e.kind s)))
  have h5 := putRule_len 1 e.dst (putList 5 e.ms (putText e.text (putInts [e.client, e.seq] (putRule 0 e.kind s))))
  unfold putE putEntry
  omega
theorem putEs_len : ∀ (es : List En) (s : List Nat × Nat), (putEs es s).1.length ≤ s.1.length + 600 * es.length
  | [], s => by simp [putEs]
  | e :: es, s => by
    have h1 := putEs_len es (putE e s)
    have h2 := putE_len e s
    have e1 : putEs (e :: es) s = putEs es (putE e s) := rfl
    rw [e1]
    simp only [List.length_cons]
    omega
theorem putEs_snoc (es : List En) (e : En) (s : List Nat × Nat) : putEs (es ++ [e]) s = putE e (putEs es s) := by simp [putEs]

/-- a slice's entries, which stay. -/
def Ents (base : Nat) (ts : List TypeId) (w : World) (ao : Option Addr) (es : List En) : Prop :=
  ∀ i, i < es.length → ∃ blk off r cx, ao = some ⟨blk, off, none⟩ ∧ w.cell? ⟨blk, off + i * 6, none⟩ = some (.int .i64 (es.getD i default).kind) ∧ w.cell? ⟨blk, off + i * 6 + 1, none⟩ = some (.int .i64 (es.getD i default).client) ∧ w.cell? ⟨blk, off + i * 6 + 2, none⟩ = some (.int .i64 (es.getD i default).seq) ∧
    w.cell? ⟨blk, off + i * 6 + 3, none⟩ = some (.string (es.getD i default).text) ∧ w.cell? ⟨blk, off + i * 6 + 4, none⟩ = some (.slice r (es.getD i default).ms.length cx) ∧ w.cell? ⟨blk, off + i * 6 + 5, none⟩ = some (.int .i64 (es.getD i default).dst) ∧
    Ints base ts w r (es.getD i default).ms ∧ (es.getD i default).text.size ≤ maxLen ∧ Stay base ts w blk
theorem Ents.only {base : Nat} {ts : List TypeId} {w w' : World} {ao : Option Addr} {es : List En} (h : Ents base ts w ao es) (ho : Only base ts w w') : Ents base ts w' ao es := fun i hi => by
  obtain ⟨blk, off, r, cx, e, h0, h1, h2, h3, h4, h5, hm, ht, hs⟩ := h i hi
  have hc : ∀ o, w'.cell? ⟨blk, o, none⟩ = w.cell? ⟨blk, o, none⟩ := fun o => World.cell?_of_block (w := w) (a := ⟨blk, o, none⟩) (hs.heap ho)
  exact ⟨blk, off, r, cx, e, by rw [hc]; exact h0, by rw [hc]; exact h1, by rw [hc]; exact h2, by rw [hc]; exact h3, by rw [hc]; exact h4, by rw [hc]; exact h5, hm.only ho, ht, hs.only ho⟩

end Go.Proofs.YtgllokinadjiaaaGreatDoor.Ww
