/- wire's writer: a text, an entry: contracts. wire's writer: an entry; EncodeEntry: contracts. wire's writer: a configuration: a contract. -/
import Derived.Test.YtjplhiflemmkfaaGreatDoorWriter
import Derived.Lib.AppendStr
namespace Go.Proofs.YtjplhiflemmkfaaGreatDoor
open Go.RowKit

def bytesOf (t : ByteArray) : List Nat := t.data.toList.map UInt8.toNat
theorem bytesOf_cells (t : ByteArray) : u8s (bytesOf t) = Lib.strCells t := by simp [u8s, bytesOf, Lib.strCells]
theorem bytesOf_lt (t : ByteArray) : ∀ x ∈ bytesOf t, x < 256 := by
  intro x hx
  simp only [bytesOf, List.mem_map] at hx
  obtain ⟨b, _, rfl⟩ := hx
  exact b.toNat_lt
theorem bytesOf_len (t : ByteArray) : (bytesOf t).length = t.size := by rw [bytesOf, List.length_map]; rfl
def putText (t : ByteArray) (s : List Nat × Nat) : List Nat × Nat :=
  if s.2 = 0 ∧ refuse 4 t.size = 0 then ((putRule 4 t.size s).1 ++ bytesOf t, 0) else putRule 4 t.size s

theorem Wr.below {base : Nat} {w w' : World} {p : Nat} {bs : List Nat} {er : Nat} (h : Wr base w p bs er) (hb : Below w.heap.size w w') : Wr base w' p bs er := by
  obtain ⟨v, ev, hp, hbp, ho, herr⟩ := h
  have k : Only 0 [] w w' := Only.of_below hb (Nat.zero_le _)
  exact ⟨v, ev, k.block hp (by simp), hbp, ho.below hb, herr.only k (by simp)⟩

set_option maxRecDepth 20000 in
set_option maxHeartbeats 1000000 in
theorem text_any (base p : Nat) (s : List Nat × Nat) (t : ByteArray) (hl : s.1.length ≤ 900000000) (_ht : t.size ≤ maxLen) (w : World) (h : Wr base w p s.1 s.2) (hbase : base ≤ w.heap.size) :
    Calls Tryz.prog 325 #[.pointer (some ⟨p, 0, none⟩), .string t] w fun e w' => e = .returned (.tuple #[]) ∧ Wr base w' p (putText t s).1 (putText t s).2 ∧ Only base [5, 336] w w' := by
  obtain ⟨i0, hi, hz0, hz1, hz2⟩ := info_parts Tryz.info5
  have HW := hide h
  clear h
  by_cases hc : s.2 = 0 ∧ refuse 4 t.size = 0
  · have e1 : putText t s = ((putRule 4 t.size s).1 ++ bytesOf t, 0) := by unfold putText; rw [if_pos hc]
    have e2 : (putRule 4 t.size s).2 = 0 := by unfold putRule; rw [if_neg (by simp [hc.1]), if_neg (by simp [hc.2])]
    have hr := (refuse_range hc.2).2
    have hd : decide (s.2 = 0 ∧ refuse 4 t.size = 0) = true := decide_eq_true hc
    have hpl := putRule_len 4 t.size s
    rw [e1]
    have HD := hide hd
    have HE2 := hide e2
    clear e1 e2 hc hd
    go_enter Tryz.func325, Tryz.ntmps325
    go_wp2_with fail
    refine (ruled_any base p 4 (by decide) s t.size (by omega) w (unhide HW) hbase).mono ?_
    rw [unhide HD]
    rintro e w1 ⟨rfl, h1, k1⟩
    rw [unhide HE2] at h1
    obtain ⟨v, ev, hp, hbp, ho, herr⟩ := h1
    have c0 : w1.cell? ⟨p, 0, none⟩ = some v := (cell_of_block hp).trans rfl
    have s1 : base ≤ w1.heap.size := Nat.le_trans hbase k1.size
    have hown := ho.1
    have HP := hide hp
    have HO := hide ho
    have HE := hide herr
    have K1 := hide k1
    clear hp ho herr k1
    go_wp2_with (at_builtin; refine Lib.wpList_append_own_string _ rfl (.tmp 12) (.tmp 13) 55 9 rfl base 5 i0 Tryz.underlying55 Tryz.underlying9 hi hz0 hz1 hz2 _ _ _ rfl hown t rfl (by unfold maxLen; omega) (by omega) s1 ?_)
    intro v2 w2 own2 g2 _
    have k2 : Only base [5] w1 w2 := (Only.refl base [5] w1).own hown g2 s1 (Nat.le_refl _) (by simp)
    have hp2 := k2.block (unhide HP) (by decide)
    have o2 : Own base w2 v2 ((putRule 4 t.size s).1 ++ bytesOf t) := by
      refine ⟨?_, ?_⟩
      · rw [List.length_append, bytesOf_len, show u8s ((putRule 4 t.size s).1 ++ bytesOf t) = u8s (putRule 4 t.size s).1 ++ u8s (bytesOf t) by simp [u8s], bytesOf_cells]; exact own2
      · intro x hx
        rcases List.mem_append.1 hx with h | h
        · exact (unhide HO).2 x h
        · exact bytesOf_lt t x h
    obtain ⟨bb, hbb⟩ : ∃ bb, (putRule 4 t.size s).1 ++ bytesOf t = bb := ⟨_, rfl⟩
    rw [hbb] at o2
    have HBB := hide hbb
    clear hbb
    obtain ⟨ao2, cap2, rfl, _⟩ := o2.slice
    have d0 : w2.cell? ⟨p, 0, none⟩ = some v := (cell_of_block hp2).trans rfl
    have f0 : w2.frozen? ⟨p, 0, none⟩ = false := free_of_block hp2
    have HP2 := hide hp2
    have K2 := hide k2
    have O2 := hide o2
    clear hp2 k2 o2 c0 hown own2 g2
    go_wp2
    go_end0
    have k3 : ∀ u, Only base [336] w2 (w2.setCell ⟨p, 0, none⟩ u) := fun u => (Only.refl _ _ _).setCell (p := ⟨p, 0, none⟩) hbp u (unhide HP2) (by simp)
    refine ⟨rfl, ?_, (unhide K1).trans (((unhide K2).mono (Nat.le_refl _) (by simp)).trans ((k3 _).mono (Nat.le_refl _) (by simp)))⟩
    show Wr base _ p ((putRule 4 t.size s).1 ++ bytesOf t) 0
    rw [unhide HBB]
    exact ⟨_, ev, setCell_block (unhide HP2), hbp, (unhide O2).only (k3 _) (by decide), ((unhide HE).only (unhide K2) (by decide)).only (k3 _) (by decide)⟩
  · have e1 : putText t s = putRule 4 t.size s := by unfold putText; rw [if_neg hc]
    have hd : decide (s.2 = 0 ∧ refuse 4 t.size = 0) = false := decide_eq_false hc
    rw [e1]
    have HD := hide hd
    clear e1 hc hd
    go_enter Tryz.func325, Tryz.ntmps325
    go_wp2_with fail
    refine (ruled_any base p 4 (by decide) s t.size (by omega) w (unhide HW) hbase).mono ?_
    rw [unhide HD]
    rintro e w1 ⟨rfl, h1, k1⟩
    have H1 := hide h1
    have K1 := hide k1
    clear h1 k1
    go_wp2
    go_end0
    exact ⟨rfl, unhide H1, unhide K1⟩
end Go.Proofs.YtjplhiflemmkfaaGreatDoor
namespace Go.Proofs.YtjplhiflemmkfaaGreatDoor
open Go.RowKit

def putInts (ys : List Int) (s : List Nat × Nat) : List Nat × Nat := (s.1 ++ nums ys, s.2)
def putEntry (kind client seq : Int) (t : ByteArray) (ys : List Int) (to' : Int) (s : List Nat × Nat) : List Nat × Nat :=
  putRule 1 to' (putList 5 ys (putText t (putInts [client, seq] (putRule 0 kind s))))
theorem putText_len (t : ByteArray) (s : List Nat × Nat) : (putText t s).1.length ≤ s.1.length + 65 := by
  have := putRule_len 4 t.size s
  unfold putText; split
  · rename_i h
    have := (refuse_range h.2).2
    simp only [List.length_append, bytesOf_len]; omega
  · omega
theorem putList_len (q : Nat) (ys : List Int) (s : List Nat × Nat) : (putList q ys s).1.length ≤ s.1.length + 513 := by
  have := putRule_len q ys.length s
  unfold putList; split
  · rename_i h
    have := (refuse_range h.2).2
    simp only [List.length_append, nums_len]; omega
  · omega

set_option maxRecDepth 20000 in
set_option maxHeartbeats 1000000 in
theorem entry_any (base p : Nat) (s : List Nat × Nat) (kind client seq to' : Int) (t : ByteArray) (ht : t.size ≤ maxLen) (ao : Option Addr) (n cap : Nat) (ys : List Int) (hn : ys.length = n) (hl : s.1.length ≤ 800000000) (w : World) (h : Wr base w p s.1 s.2) (hy : Ints base [5, 336] w ao ys) (hbase : base ≤ w.heap.size) :
    Calls Tryz.prog 313 #[.pointer (some ⟨p, 0, none⟩), .agg #[.int .i64 kind, .int .i64 client, .int .i64 seq, .string t, .slice ao n cap, .int .i64 to']] w fun e w' => e = .returned (.tuple #[]) ∧ Wr base w' p (putEntry kind client seq t ys to' s).1 (putEntry kind client seq t ys to' s).2 ∧ Only base [5, 336] w w' := by
  have W0 := hide (h.below ((Below.refl _ w).alloc (Nat.le_refl _) (.cells #[.int .i64 kind, .int .i64 client, .int .i64 seq, .string t, .slice ao n cap, .int .i64 to'] 43)))
  have k0 : Only base [5, 336] w (w.alloc (.cells #[.int .i64 kind, .int .i64 client, .int .i64 seq, .string t, .slice ao n cap, .int .i64 to'] 43)) := (Only.refl _ _ _).alloc hbase _
  have K0 := hide k0
  have Y0 := hide (hy.only k0)
  have box0 := heap_alloc_new w (.cells #[.int .i64 kind, .int .i64 client, .int .i64 seq, .string t, .slice ao n cap, .int .i64 to'] 43)
  have X0 := hide box0
  have s0 : base ≤ (w.alloc (.cells #[.int .i64 kind, .int .i64 client, .int .i64 seq, .string t, .slice ao n cap, .int .i64 to'] 43)).heap.size := Nat.le_trans hbase k0.size
  have S0 := hide s0
  have HN := hide hn
  have HT := hide ht
  have l1 := putRule_len 0 kind s
  have L2 : Hid ((putInts [client, seq] (putRule 0 kind s)).1.length = (putRule 0 kind s).1.length + 16) := by show _ = _; unfold putInts; rw [List.length_append, nums_len]; rfl
  have L3 := hide (putText_len t (putInts [client, seq] (putRule 0 kind s)))
  have L4 := hide (putList_len 5 ys (putText t (putInts [client, seq] (putRule 0 kind s))))
  clear h hy k0 box0 s0 hn ht
  go_enter Tryz.func313, Tryz.ntmps313
  go_wp2_with fail
  refine (ruled_any base p 0 (by decide) s kind (by omega) _ (unhide W0) (unhide S0)).mono ?_
  rintro e w1 ⟨rfl, h1, k1⟩
  have x1 := k1.block (unhide X0) (by decide)
  have c1 : w1.cell? ⟨w.heap.size, 1, none⟩ = some (.int .i64 client) := (cell_of_block x1).trans rfl
  have c2 : w1.cell? ⟨w.heap.size, 2, none⟩ = some (.int .i64 seq) := (cell_of_block x1).trans rfl
  have s1 : base ≤ w1.heap.size := Nat.le_trans (unhide S0) k1.size
  have H1 := hide h1
  have X1 := hide x1
  have K1 := hide ((unhide K0).trans k1)
  have Y1 := hide ((unhide Y0).only k1)
  clear h1 x1 k1
  go_wp2_with fail
  have ki : Only base [5, 336] w1 (w1.alloc (.cells #[.int .i64 client, .int .i64 seq] 3)) := (Only.refl _ _ _).alloc s1 _
  have hin : Ints base [5, 336] (w1.alloc (.cells #[.int .i64 client, .int .i64 seq] 3)) (some ⟨w1.heap.size, 0, none⟩) [client, seq] := by
    intro i hi
    have hb := heap_alloc_new w1 (.cells #[.int .i64 client, .int .i64 seq] 3)
    refine ⟨_, rfl, ?_, Or.inr ⟨_, _, _, hb, by decide⟩⟩
    rw [Addr.add_lit, cell_of_block hb]
    have hi' : i = 0 ∨ i = 1 := by simp at hi; omega
    rcases hi' with rfl | rfl <;> rfl
  refine (ints_any base p _ _ (some ⟨w1.heap.size, 0, none⟩) 2 2 [client, seq] rfl _ ((unhide H1).below ((Below.refl _ _).alloc (Nat.le_refl _) _)) hin (Nat.le_trans s1 ki.size) (by omega)).mono ?_
  rintro e w2 ⟨rfl, h2, k2'⟩
  have k2 := ki.trans k2'
  have x2 := k2.block (unhide X1) (by decide)
  have d3 : w2.cell? ⟨w.heap.size, 3, none⟩ = some (.string t) := (cell_of_block x2).trans rfl
  have s2 : base ≤ w2.heap.size := Nat.le_trans s1 k2.size
  have H2 : Hid (Wr base w2 p (putInts [client, seq] (putRule 0 kind s)).1 (putInts [client, seq] (putRule 0 kind s)).2) := h2
  have X2 := hide x2
  have K2 := hide ((unhide K1).trans k2)
  have Y2 := hide ((unhide Y1).only k2)
  clear h2 x2 k2 k2' ki hin c1 c2
  go_wp2_with fail
  refine (text_any base p _ t (by have := unhide L2; omega) (unhide HT) w2 (unhide H2) s2).mono ?_
  rintro e w3 ⟨rfl, h3, k3⟩
  have x3 := k3.block (unhide X2) (by decide)
  have e4 : w3.cell? ⟨w.heap.size, 4, none⟩ = some (.slice ao n cap) := (cell_of_block x3).trans rfl
  have s3 : base ≤ w3.heap.size := Nat.le_trans s2 k3.size
  have H3 := hide h3
  have X3 := hide x3
  have K3 := hide ((unhide K2).trans k3)
  have Y3 := hide ((unhide Y2).only k3)
  clear h3 x3 k3 d3
  go_wp2_with fail
  refine (list_any base p 5 (by decide) _ ao n cap ys (unhide HN) (by have := unhide L2; have := unhide L3; omega) w3 (unhide H3) (unhide Y3) s3).mono ?_
  rintro e w4 ⟨rfl, h4, k4⟩
  have x4 := k4.block (unhide X3) (by decide)
  have g5 : w4.cell? ⟨w.heap.size, 5, none⟩ = some (.int .i64 to') := (cell_of_block x4).trans rfl
  have s4 : base ≤ w4.heap.size := Nat.le_trans s3 k4.size
  have H4 := hide h4
  have K4 := hide ((unhide K3).trans k4)
  clear h4 x4 k4 e4
  go_wp2_with fail
  refine (ruled_any base p 1 (by decide) _ to' (by have := unhide L2; have := unhide L3; have := unhide L4; omega) w4 (unhide H4) s4).mono ?_
  rintro e w5 ⟨rfl, h5, k5⟩
  have H5 := hide h5
  have K5 := hide ((unhide K4).trans k5)
  clear h5 k5 g5
  go_wp2
  go_end0
  exact ⟨rfl, unhide H5, unhide K5⟩
end Go.Proofs.YtjplhiflemmkfaaGreatDoor
namespace Go.Proofs.YtjplhiflemmkfaaGreatDoor
open Go.RowKit

def putConfig (xs ys : List Int) (s : List Nat × Nat) : List Nat × Nat := putList 5 ys (putList 5 xs s)

set_option maxRecDepth 20000 in
set_option maxHeartbeats 1000000 in
theorem config_any (base p : Nat) (s : List Nat × Nat) (ao bo : Option Addr) (n m ca cb : Nat) (xs ys : List Int) (hn : xs.length = n) (hm : ys.length = m) (hl : s.1.length ≤ 800000000) (w : World) (h : Wr base w p s.1 s.2) (hx : Ints base [5, 336] w ao xs) (hy : Ints base [5, 336] w bo ys) (hbase : base ≤ w.heap.size) :
    Calls Tryz.prog 286 #[.pointer (some ⟨p, 0, none⟩), .agg #[.slice ao n ca, .slice bo m cb]] w fun e w' => e = .returned (.tuple #[]) ∧ Wr base w' p (putConfig xs ys s).1 (putConfig xs ys s).2 ∧ Only base [5, 336] w w' := by
  have W0 := hide (h.below ((Below.refl _ w).alloc (Nat.le_refl _) (.cells #[.slice ao n ca, .slice bo m cb] 26)))
  have k0 : Only base [5, 336] w (w.alloc (.cells #[.slice ao n ca, .slice bo m cb] 26)) := (Only.refl _ _ _).alloc hbase _
  have K0 := hide k0
  have X0 := hide (hx.only k0)
  have Y0 := hide (hy.only k0)
  have B0 := hide (heap_alloc_new w (.cells #[.slice ao n ca, .slice bo m cb] 26))
  have S0 := hide (Nat.le_trans hbase k0.size)
  have HN := hide hn
  have HM := hide hm
  have L1 := hide (putList_len 5 xs s)
  clear h hx hy k0 hn hm
  go_enter Tryz.func286, Tryz.ntmps286
  go_wp2_with fail
  refine (list_any base p 5 (by decide) s ao n ca xs (unhide HN) (by omega) _ (unhide W0) (unhide X0) (unhide S0)).mono ?_
  rintro e w1 ⟨rfl, h1, k1⟩
  have x1 := k1.block (unhide B0) (by decide)
  have c1 : w1.cell? ⟨w.heap.size, 1, none⟩ = some (.slice bo m cb) := (cell_of_block x1).trans rfl
  have H1 := hide h1
  have K1 := hide ((unhide K0).trans k1)
  have Y1 := hide ((unhide Y0).only k1)
  have s1 : base ≤ w1.heap.size := Nat.le_trans (unhide S0) k1.size
  clear h1 x1 k1
  go_wp2_with fail
  refine (list_any base p 5 (by decide) _ bo m cb ys (unhide HM) (by have := unhide L1; omega) w1 (unhide H1) (unhide Y1) s1).mono ?_
  rintro e w2 ⟨rfl, h2, k2⟩
  have H2 := hide h2
  have K2 := hide ((unhide K1).trans k2)
  clear h2 k2 c1
  go_wp2
  go_end0
  exact ⟨rfl, unhide H2, unhide K2⟩
end Go.Proofs.YtjplhiflemmkfaaGreatDoor
