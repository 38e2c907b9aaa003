/- wire's writer: the rule of a byte, and a byte that is laid or refused: contracts. wire's writer: ints: a contract. wire's writer: a byte with a rule, a list, a configuration: contracts by what they do to what was laid and to the first flaw. wire's writer: a text, an entry: contracts. wire's writer: an entry; EncodeEntry: contracts. wire's writer: a configuration: a contract. wire's writer: entries, a message: contracts. wire's writer: a message: a contract. -/
import Derived.Test.YtojmnlbdhpledaaDoorSplitW
import Derived.Test.YtojmnlbdhpledaaDoorPut
import Derived.Lib.AppendStr
namespace Go.Proofs.YtojmnlbdhpledaaDoor
open Go.RowKit

/-- what may stand in a byte: from, to, and the number by which another is refused. -/
def rule : Nat → Nat × Nat × Nat
  | 0 => (0, 4, 3)
  | 1 => (0, 2, 3)
  | 2 => (1, 15, 3)
  | 3 => (0, 1, 12)
  | 4 => (0, 16, 5)
  | 5 => (0, 9, 4)
  | _ => (0, 64, 4)
def refuse (p : Nat) (n : Int) : Nat := if n < (rule p).1 ∨ ((rule p).2.1 : Int) < n then (rule p).2.2 else 0

set_option maxHeartbeats 1000000 in
theorem refusal_any (p : Nat) (hp : p < 7) (n : Int) (w : World) :
    Calls Tryd.prog 72 #[.int .i64 p, .int .i64 n] w fun e w' => e = .returned (.int .i64 ((refuse p n : Nat) : Int)) ∧ w' = w := by
  have hc : p = 0 ∨ p = 1 ∨ p = 2 ∨ p = 3 ∨ p = 4 ∨ p = 5 ∨ p = 6 := by omega
  rcases hc with rfl | rfl | rfl | rfl | rfl | rfl | rfl
  all_goals
    clear hp
    unfold refuse rule
    go_enter Tryd.func72, Tryd.ntmps72
    go_wp2
    all_goals
      go_ret
      refine ⟨ret_int ?_, rfl⟩
      first
        | rfl
        | omega
        | (rw [if_pos (by omega)]; rfl)
        | (rw [if_neg (by omega)]; rfl)

/-- the error of a writer or a reader, with its block. -/
def ErrB (w : World) (ev : Value) (n : Nat) : Prop :=
  (n = 0 ∧ ev = .nilIface) ∨ ∃ (b : Nat) (x : Value), n ≠ 0 ∧ ev = .iface 124 (.pointer (some ⟨b, 0, none⟩)) ∧ w.heap[b]? = some (.cells #[x, .iface 28 (.int .i64 (n : Int))] 126 (0, 0))
theorem ErrB.err {w : World} {ev : Value} {n : Nat} (h : ErrB w ev n) : Err w ev n := by
  rcases h with h | ⟨b, x, h1, h2, h3⟩
  · exact Or.inl h
  · exact Or.inr ⟨b, h1, h2, by simp only [World.cell?, h3]; rfl⟩
theorem ErrB.only {base : Nat} {ts : List TypeId} {w w' : World} {ev : Value} {n : Nat} (h : ErrB w ev n) (ho : Only base ts w w') (ht : 126 ∉ ts) : ErrB w' ev n := by
  rcases h with h | ⟨b, x, h1, h2, h3⟩
  · exact Or.inl h
  · exact Or.inr ⟨b, x, h1, h2, ho.block h3 ht⟩
theorem ErrB.none {w : World} {ev : Value} (h : ErrB w ev 0) : ev = .nilIface := by
  rcases h with ⟨_, h⟩ | ⟨_, _, h0, _⟩
  · exact h
  · exact absurd rfl h0
/-- a writer: what it has laid, and its first flaw. -/
def Wr (base : Nat) (w : World) (p : Nat) (bs : List Nat) (er : Nat) : Prop :=
  ∃ v ev, w.heap[p]? = some (.cells #[v, ev] 105 (0, 0)) ∧ base ≤ p ∧ Own base w v bs ∧ ErrB w ev er
theorem setCell_block {w : World} {p i : Nat} {u : Value} {cs : Array Value} {t : TypeId} {fr : Nat × Nat} (h : w.heap[p]? = some (.cells cs t fr)) :
    (w.setCell ⟨p, i, none⟩ u).heap[p]? = some (.cells (cs.setIfInBounds i u) t fr) := by
  simp [World.setCell, Array.getElem?_modify, h]
theorem cell_of_block {w : World} {p i : Nat} {cs : Array Value} {t : TypeId} {fr : Nat × Nat} (h : w.heap[p]? = some (.cells cs t fr)) : w.cell? ⟨p, i, none⟩ = cs[i]? := by
  simp [World.cell?, h]
theorem free_of_block {w : World} {p i : Nat} {cs : Array Value} {t : TypeId} (h : w.heap[p]? = some (.cells cs t (0, 0))) : w.frozen? ⟨p, i, none⟩ = false := by
  simp [World.frozen?, h]

theorem ruled_err (base p q : Nat) (bs : List Nat) (er : Nat) (n : Int) (w : World) (h : Wr base w p bs er) (he : er ≠ 0) :
    Calls Tryd.prog 58 #[.pointer (some ⟨p, 0, none⟩), .int .i64 q, .int .i64 n] w fun e w' => e = .returned (.bool false) ∧ w' = w := by
  obtain ⟨v, ev, hp, hbp, ho, herr⟩ := h
  rcases herr with ⟨h0, _⟩ | ⟨b, x, _, rfl, _⟩
  · exact absurd h0 he
  have c1 : w.cell? ⟨p, 1, none⟩ = some (.iface 124 (.pointer (some ⟨b, 0, none⟩))) := (cell_of_block hp).trans rfl
  clear hp ho
  go_enter Tryd.func58, Tryd.ntmps58
  go_wp2
  go_ret
  exact ⟨rfl, rfl⟩

set_option maxHeartbeats 1000000 in
theorem ruled_bad (base p q : Nat) (hq : q < 7) (bs : List Nat) (n : Int) (w : World) (h : Wr base w p bs 0) (hbase : base ≤ w.heap.size) (hr : refuse q n ≠ 0) :
    Calls Tryd.prog 58 #[.pointer (some ⟨p, 0, none⟩), .int .i64 q, .int .i64 n] w fun e w' => e = .returned (.bool false) ∧ Wr base w' p bs (refuse q n) ∧ Only base [5, 105] w w' := by
  obtain ⟨v, ev, hp, hbp, ho, herr⟩ := h
  obtain rfl : ev = .nilIface := herr.none
  obtain ⟨aob, capb, rfl, _⟩ := ho.slice
  have c1 : w.cell? ⟨p, 1, none⟩ = some .nilIface := (cell_of_block hp).trans rfl
  have c0 : w.cell? ⟨p, 0, none⟩ = some (.slice aob bs.length capb) := (cell_of_block hp).trans rfl
  have hplt := blk_lt c0
  simp only at hplt
  have f1 : w.frozen? ⟨p, 1, none⟩ = false := free_of_block hp
  have hr' : (((refuse q n : Nat) : Int) != 0) = true := by rw [bne_iff_ne]; omega
  have HP := hide hp
  have HO := hide ho
  have HR := hide hr
  clear hp ho hr herr
  go_enter Tryd.func58, Tryd.ntmps58
  go_wp2_with (go_at_call 72; refine (refusal_any q hq n _).mono ?_; rintro e w' ⟨rfl, rfl⟩)
  go_ret
  have k1 : ∀ u, Only base [105] w' (w'.setCell ⟨p, 1, none⟩ u) := fun u => (Only.refl _ _ _).setCell (p := ⟨p, 1, none⟩) hbp u (unhide HP) (by simp)
  have es : ∀ u, (w'.setCell ⟨p, 1, none⟩ u).heap.size = w'.heap.size := fun u => by simp [World.setCell]
  have k2 : ∀ u o, Only base [105] w' ((w'.setCell ⟨p, 1, none⟩ u).alloc o) := fun u o => (k1 u).alloc (by rw [es]; exact hbase) o
  have b1 : ∀ u o, ((w'.setCell ⟨p, 1, none⟩ u).alloc o).heap[p]? = some (.cells #[.slice aob bs.length capb, u] 105 (0, 0)) := fun u o => (Below.heap_alloc _ o p (by rw [es]; exact hplt)).trans (setCell_block (unhide HP))
  have b2 : ∀ u o, ((w'.setCell ⟨p, 1, none⟩ u).alloc o).heap[w'.heap.size]? = some o := fun u o => by have h := heap_alloc_new (w'.setCell ⟨p, 1, none⟩ u) o; rw [es] at h; exact h
  exact ⟨rfl, ⟨_, _, b1 _ _, hbp, (unhide HO).only (k2 _ _) (by decide), Or.inr ⟨w'.heap.size, _, unhide HR, rfl, b2 _ _⟩⟩, (k2 _ _).mono (Nat.le_refl _) (by simp)⟩

set_option maxRecDepth 20000 in
set_option maxHeartbeats 1000000 in
theorem ruled_ok (base p q : Nat) (hq : q < 7) (bs : List Nat) (n : Nat) (hn : n < 256) (hl : bs.length ≤ 1000000000) (w : World) (h : Wr base w p bs 0) (hbase : base ≤ w.heap.size) (hr : refuse q n = 0) :
    Calls Tryd.prog 58 #[.pointer (some ⟨p, 0, none⟩), .int .i64 q, .int .i64 n] w fun e w' => e = .returned (.bool true) ∧ Wr base w' p (bs ++ [n]) 0 ∧ Only base [5, 105] w w' := by
  obtain ⟨i0, hi, hz0, hz1, hz2⟩ := info_parts Tryd.info5
  obtain ⟨v, ev, hp, hbp, ho, herr⟩ := h
  obtain rfl : ev = .nilIface := herr.none
  have c1 : w.cell? ⟨p, 1, none⟩ = some .nilIface := (cell_of_block hp).trans rfl
  have c0 : w.cell? ⟨p, 0, none⟩ = some v := (cell_of_block hp).trans rfl
  have hplt := blk_lt c0
  simp only at hplt
  have hown := ho.1
  have HP := hide hp
  have HO := hide ho
  clear hp ho herr
  go_enter Tryd.func58, Tryd.ntmps58
  go_wp2_with fail
  refine (refusal_any q hq n w).mono ?_
  rw [hr]
  rintro e w' ⟨rfl, rfl⟩
  go_wp2_with (at_builtin; refine wpList_append_own _ rfl (.tmp 35) (.tmp 38) 27 rfl base 5 i0 (.int .u8 0) 1 1 Tryd.underlying27 hi hz0 hz1 hz2 rfl (by decide) _ _ _ rfl (hown.alloc _) ⟨w'.heap.size, 0, none⟩ 1 1 _ rfl rfl news_at (one1 _) (by unfold maxLen; omega) (by omega) (by simp; omega) ?_)
  intro v2 w2 own2 g2 _
  have k2 : Only base [5] w' w2 := ((Only.refl base [5] w').alloc hbase _).own (hown.alloc _) g2 (by simp; omega) (Nat.le_refl _) (by simp)
  have hp2 := k2.block (unhide HP) (by decide)
  obtain ⟨gb, cap2, rfl⟩ : ∃ gb cap2, v2 = .slice (some ⟨gb, 0, none⟩) (bs.length + 1) cap2 := by
    rcases own2.2 with ⟨_, h0⟩ | ⟨gb, cap2, cur, rfl, _⟩
    · omega
    · exact ⟨gb, cap2, rfl⟩
  have d0 : w2.cell? ⟨p, 0, none⟩ = some v := (cell_of_block hp2).trans rfl
  have f0 : w2.frozen? ⟨p, 0, none⟩ = false := free_of_block hp2
  have HP2 := hide hp2
  have K2 := hide k2
  have O2 := hide own2
  clear hp2 k2 own2 g2 hown c0 c1
  go_wp2
  go_ret
  have k3 : ∀ u, Only base [105] w2 (w2.setCell ⟨p, 0, none⟩ u) := fun u => (Only.refl _ _ _).setCell (p := ⟨p, 0, none⟩) hbp u (unhide HP2) (by simp)
  have o2 : Own base w2 (.slice (some ⟨gb, 0, none⟩) (bs.length + 1) cap2) (bs ++ [n]) := by
    refine ⟨?_, ?_⟩
    · have h := unhide O2
      have e2 : (bs ++ [n]).length = bs.length + 1 := by simp
      have e : u8s (bs ++ [n]) = u8s bs ++ [Value.int .u8 (n : Int)] := by simp [u8s]
      rw [e2, e]; exact h
    · intro x hx
      rcases List.mem_append.1 hx with h | h
      · exact (unhide HO).2 x h
      · simp at h; omega
  exact ⟨rfl, ⟨_, .nilIface, setCell_block (unhide HP2), hbp, o2.only (k3 _) (by decide), Or.inl ⟨rfl, rfl⟩⟩, ((unhide K2).mono (Nat.le_refl _) (by simp)).trans ((k3 _).mono (Nat.le_refl _) (by simp))⟩
end Go.Proofs.YtojmnlbdhpledaaDoor
namespace Go.Proofs.YtojmnlbdhpledaaDoor
open Go.RowKit

def num8 (n : Int) : List Nat := be8 (n % 18446744073709551616).toNat
def nums (ys : List Int) : List Nat := (ys.map num8).flatten
theorem num8_len (n : Int) : (num8 n).length = 8 := rfl
theorem nums_len (ys : List Int) : (nums ys).length = 8 * ys.length := by
  induction ys with
  | nil => rfl
  | cons y ys ih => simp only [nums, List.map_cons, List.flatten_cons, List.length_append, num8_len, List.length_cons] at *; omega
theorem nums_snoc (ys : List Int) (y : Int) : nums (ys ++ [y]) = nums ys ++ num8 y := by simp [nums]

/-- a block that a call which keeps 'Only base ts' leaves as it is. -/
def Stay (base : Nat) (ts : List TypeId) (w : World) (k : Nat) : Prop := k < base ∨ ∃ cur e fr, w.heap[k]? = some (.cells cur e fr) ∧ e ∉ ts
theorem Stay.heap {base : Nat} {ts : List TypeId} {w w' : World} {k : Nat} (h : Stay base ts w k) (ho : Only base ts w w') : w'.heap[k]? = w.heap[k]? := by
  rcases h with h | ⟨cur, e, fr, h, he⟩
  · exact ho.1.block k h
  · rw [ho.block h he, h]
theorem Stay.only {base : Nat} {ts : List TypeId} {w w' : World} {k : Nat} (h : Stay base ts w k) (ho : Only base ts w w') : Stay base ts w' k := by
  have e := h.heap ho
  rcases h with h | ⟨cur, t, fr, h, he⟩
  · exact Or.inl h
  · exact Or.inr ⟨cur, t, fr, by rw [e]; exact h, he⟩
/-- a slice of numbers that stays. -/
def Ints (base : Nat) (ts : List TypeId) (w : World) (ao : Option Addr) (ys : List Int) : Prop :=
  ∀ i, i < ys.length → ∃ a, ao = some a ∧ w.cell? (a.add i) = some (.int .i64 (ys.getD i 0)) ∧ Stay base ts w a.block
theorem Ints.only {base : Nat} {ts : List TypeId} {w w' : World} {ao : Option Addr} {ys : List Int} (h : Ints base ts w ao ys) (ho : Only base ts w w') : Ints base ts w' ao ys := fun i hi => by
  obtain ⟨a, e, hc, hs⟩ := h i hi
  refine ⟨a, e, ?_, hs.only ho⟩
  rw [World.cell?_of_block (w := w) (a := a.add i) (by rw [add_block]; exact hs.heap ho)]; exact hc

set_option maxRecDepth 20000 in
set_option maxHeartbeats 1000000 in
theorem ints_any (base p : Nat) (bs : List Nat) (er : Nat) (ao : Option Addr) (n cap : Nat) (ys : List Int) (hn : ys.length = n) (w : World) (h : Wr base w p bs er) (hy : Ints base [5, 105] w ao ys) (hbase : base ≤ w.heap.size) (hl : bs.length + 8 * n ≤ 1000000000) :
    Calls Tryd.prog 59 #[.pointer (some ⟨p, 0, none⟩), .slice ao n cap] w fun e w' => e = .returned (.tuple #[]) ∧ Wr base w' p (bs ++ nums ys) er ∧ Only base [5, 105] w w' := by
  have HW := hide h
  have HY := hide hy
  have HN := hide hn
  clear h hy hn
  go_enter Tryd.func59, Tryd.ntmps59
  go_wp2_with fail
  go_loopg [8] n (fun g iv wr => ∃ k : Nat, k ≤ n ∧ g = n - k ∧ iv = .int .i64 k ∧ Wr base wr p (bs ++ nums (ys.take k)) er ∧ Only base [5, 105] w wr)
  case atStart => exact ⟨0, Nat.zero_le _, by omega, rfl, by simpa [nums] using unhide HW, Only.refl _ _ _⟩
  case round =>
    obtain ⟨k, hk, hg, rfl, hwr, hon⟩ := hrel
    have HG := hide hg
    have HO := hide hon
    clear hg hon
    by_cases hlt : k < n
    · obtain ⟨a, rfl, hc, _⟩ := ((unhide HY).only (unhide HO)) k (by rw [unhide HN]; exact hlt)
      obtain ⟨v, ev, hp, hbp, ho, herr⟩ := hwr
      have c0 : wr.cell? ⟨p, 0, none⟩ = some v := (cell_of_block hp).trans rfl
      have HP := hide hp
      have HOW := hide ho
      have HE := hide herr
      have hlen : (bs ++ nums (ys.take k)).length ≤ 1000000000 := by rw [List.length_append, nums_len, List.length_take, unhide HN]; omega
      have HS : Hid (ys.take (k + 1) = ys.take k ++ [ys.getD k 0]) := take_succ ys 0 k (by rw [unhide HN]; exact hlt)
      have s1 : base ≤ wr.heap.size := Nat.le_trans hbase (unhide HO).size
      have hu : IntKind.u64.wrap (ys.getD k 0) = (((ys.getD k 0 % 18446744073709551616).toNat : Nat) : Int) := by rw [IntKind.wrap_u64]; omega
      have HQ : Hid (num8 (ys.getD k 0) = be8 (ys.getD k 0 % 18446744073709551616).toNat) := rfl
      have hul : (ys.getD k 0 % 18446744073709551616).toNat < 18446744073709551616 := by omega
      clear hp ho herr
      generalize (ys.getD k 0 % 18446744073709551616).toNat = m at *
      generalize ys.getD k 0 = y at *
      go_wp2_with fail
      refine (put8 base v _ m wr (unhide HOW) hlen s1 hul).mono ?_
      rintro e w2 ⟨v2, rfl, o2, k2⟩
      obtain ⟨ao2, cap2, rfl, _⟩ := o2.slice
      have hp2 := k2.block (unhide HP) (by decide)
      have d0 : w2.cell? ⟨p, 0, none⟩ = some v := (cell_of_block hp2).trans rfl
      have f0 : w2.frozen? ⟨p, 0, none⟩ = false := free_of_block hp2
      have HP2 := hide hp2
      have K2 := hide k2
      have O2 := hide o2
      clear hp2 k2 o2 c0 hc
      go_wp2
      go_roundg (n - (k + 1))
      case measure => have := unhide HG; omega
      case rel =>
        have k3 : ∀ u, Only base [105] w2 (w2.setCell ⟨p, 0, none⟩ u) := fun u => (Only.refl _ _ _).setCell (p := ⟨p, 0, none⟩) hbp u (unhide HP2) (by simp)
        refine ⟨k + 1, by omega, rfl, by go_num, ⟨_, ev, setCell_block (unhide HP2), hbp, ?_, ((unhide HE).only (unhide K2) (by decide)).only (k3 _) (by decide)⟩, (unhide HO).trans (((unhide K2).mono (Nat.le_refl _) (by simp)).trans ((k3 _).mono (Nat.le_refl _) (by simp)))⟩
        have e : bs ++ nums (ys.take (k + 1)) = bs ++ nums (ys.take k) ++ be8 m := by rw [unhide HS, nums_snoc, unhide HQ, List.append_assoc]
        have h := (unhide O2).only (k3 (.slice ao2 (bs ++ nums (ys.take k) ++ be8 m).length cap2)) (by decide)
        simp only [List.length_append, Nat.add_assoc] at h
        rw [e]; exact h
    · have ek : ys.take k = ys := List.take_of_length_le (by rw [unhide HN]; omega)
      rw [ek] at hwr
      have HWR := hide hwr
      clear hwr ek
      go_wp2
      refine bodyPost_end (v := .tuple #[]) (by simp [results, Tryd.results59]) rfl ⟨rfl, unhide HWR, unhide HO⟩
end Go.Proofs.YtojmnlbdhpledaaDoor
namespace Go.Proofs.YtojmnlbdhpledaaDoor
open Go.RowKit

def putRule (q : Nat) (n : Int) (s : List Nat × Nat) : List Nat × Nat := if s.2 ≠ 0 then s else if refuse q n ≠ 0 then (s.1, refuse q n) else (s.1 ++ [n.toNat], 0)
def putList (q : Nat) (ys : List Int) (s : List Nat × Nat) : List Nat × Nat :=
  if s.2 = 0 ∧ refuse q ys.length = 0 then ((putRule q ys.length s).1 ++ nums ys, 0) else putRule q ys.length s
theorem rule_le (q : Nat) : (rule q).2.1 ≤ 64 := by unfold rule; split <;> decide
theorem refuse_range {q : Nat} {n : Int} (h : refuse q n = 0) : 0 ≤ n ∧ n ≤ 64 := by
  have hq : ∀ q, (rule q).2.2 ≠ 0 := by intro q; unfold rule; split <;> decide
  have := rule_le q
  unfold refuse at h
  split at h
  · exact absurd h (hq q)
  · omega
theorem putRule_len (q : Nat) (n : Int) (s : List Nat × Nat) : (putRule q n s).1.length ≤ s.1.length + 1 := by
  unfold putRule; split
  · omega
  · split <;> simp

theorem ruled_any (base p q : Nat) (hq : q < 7) (s : List Nat × Nat) (n : Int) (hl : s.1.length ≤ 1000000000) (w : World) (h : Wr base w p s.1 s.2) (hbase : base ≤ w.heap.size) :
    Calls Tryd.prog 58 #[.pointer (some ⟨p, 0, none⟩), .int .i64 q, .int .i64 n] w fun e w' => e = .returned (.bool (decide (s.2 = 0 ∧ refuse q n = 0))) ∧ Wr base w' p (putRule q n s).1 (putRule q n s).2 ∧ Only base [5, 105] w w' := by
  obtain ⟨bs, er⟩ := s
  by_cases he : er = 0
  · subst he
    by_cases hr : refuse q n = 0
    · have hn := refuse_range hr
      obtain ⟨m, rfl⟩ : ∃ m : Nat, n = (m : Int) := ⟨n.toNat, by omega⟩
      refine (ruled_ok base p q hq bs m (by omega) hl w h hbase hr).mono ?_
      rintro e w' ⟨rfl, h1, h2⟩
      have e1 : putRule q (m : Int) (bs, 0) = (bs ++ [m], 0) := by unfold putRule; rw [if_neg (by simp), if_neg (by simpa using hr)]; simp
      rw [e1]
      exact ⟨by simp [hr], h1, h2⟩
    · refine (ruled_bad base p q hq bs n w h hbase hr).mono ?_
      rintro e w' ⟨rfl, h1, h2⟩
      have e1 : putRule q n (bs, 0) = (bs, refuse q n) := by unfold putRule; rw [if_neg (by simp), if_pos hr]
      rw [e1]
      exact ⟨by simp [hr], h1, h2⟩
  · refine (ruled_err base p q bs er n w h he).mono ?_
    rintro e w' ⟨rfl, rfl⟩
    have e1 : putRule q n (bs, er) = (bs, er) := by unfold putRule; rw [if_pos he]
    rw [e1]
    exact ⟨by simp [he], h, Only.refl _ _ _⟩

set_option maxHeartbeats 1000000 in
theorem list_any (base p q : Nat) (hq : q < 7) (s : List Nat × Nat) (ao : Option Addr) (n cap : Nat) (ys : List Int) (hn : ys.length = n) (hl : s.1.length ≤ 900000000) (w : World) (h : Wr base w p s.1 s.2) (hy : Ints base [5, 105] w ao ys) (hbase : base ≤ w.heap.size) :
    Calls Tryd.prog 61 #[.pointer (some ⟨p, 0, none⟩), .int .i64 q, .slice ao n cap] w fun e w' => e = .returned (.tuple #[]) ∧ Wr base w' p (putList q ys s).1 (putList q ys s).2 ∧ Only base [5, 105] w w' := by
  have HW := hide h
  have HY := hide hy
  have HN := hide hn
  clear h hy
  by_cases hc : s.2 = 0 ∧ refuse q ys.length = 0
  · have e1 : putList q ys s = ((putRule q ys.length s).1 ++ nums ys, 0) := by unfold putList; rw [if_pos hc]
    have e2 : (putRule q ys.length s).2 = 0 := by unfold putRule; rw [if_neg (by simp [hc.1]), if_neg (by simp [hc.2])]
    have hr := (refuse_range hc.2).2
    have hd : decide (s.2 = 0 ∧ refuse q ys.length = 0) = true := decide_eq_true hc
    have hpl := putRule_len q ys.length s
    rw [e1]
    subst hn
    have HD := hide hd
    have HE2 := hide e2
    clear e1 e2 hc hd
    go_enter Tryd.func61, Tryd.ntmps61
    go_wp2_with fail
    refine (ruled_any base p q hq s ys.length (by omega) w (unhide HW) hbase).mono ?_
    rw [unhide HD]
    rintro e w1 ⟨rfl, h1, k1⟩
    rw [unhide HE2] at h1
    have H1 := hide h1
    have K1 := hide k1
    clear h1 k1
    go_wp2_with fail
    refine (ints_any base p _ 0 ao ys.length cap ys rfl w1 (unhide H1) ((unhide HY).only (unhide K1)) (Nat.le_trans hbase (unhide K1).size) (by omega)).mono ?_
    rintro e w2 ⟨rfl, h2, k2⟩
    have H2 := hide h2
    have K2 := hide k2
    clear h2 k2
    go_wp2
    go_end0
    exact ⟨rfl, unhide H2, (unhide K1).trans (unhide K2)⟩
  · have e1 : putList q ys s = putRule q ys.length s := by unfold putList; rw [if_neg hc]
    have hd : decide (s.2 = 0 ∧ refuse q ys.length = 0) = false := decide_eq_false hc
    rw [e1]
    subst hn
    have HD := hide hd
    clear e1 hc hd
    go_enter Tryd.func61, Tryd.ntmps61
    go_wp2_with fail
    refine (ruled_any base p q hq s ys.length (by omega) w (unhide HW) hbase).mono ?_
    rw [unhide HD]
    rintro e w1 ⟨rfl, h1, k1⟩
    have H1 := hide h1
    have K1 := hide k1
    clear h1 k1
    go_wp2
    go_end0
    exact ⟨rfl, unhide H1, unhide K1⟩
end Go.Proofs.YtojmnlbdhpledaaDoor
namespace Go.Proofs.YtojmnlbdhpledaaDoor
open Go.RowKit

def bytesOf (t : ByteArray) : List Nat := t.data.toList.map UInt8.toNat
theorem bytesOf_cells (t : ByteArray) : u8s (bytesOf t) = Lib.strCells t := by simp [u8s, bytesOf, Lib.strCells]
theorem bytesOf_lt (t : ByteArray) : ∀ x ∈ bytesOf t, x < 256 := by
  intro x hx
  simp only [bytesOf, List.mem_map] at hx
  obtain ⟨b, _, rfl⟩ := hx
  exact b.toNat_lt
theorem bytesOf_len (t : ByteArray) : (bytesOf t).length = t.size := by rw [bytesOf, List.length_map]; rfl
def putText (t : ByteArray) (s : List Nat × Nat) : List Nat × Nat :=
  if s.2 = 0 ∧ refuse 4 t.size = 0 then ((putRule 4 t.size s).1 ++ bytesOf t, 0) else putRule 4 t.size s

theorem Wr.below {base : Nat} {w w' : World} {p : Nat} {bs : List Nat} {er : Nat} (h : Wr base w p bs er) (hb : Below w.heap.size w w') : Wr base w' p bs er := by
  obtain ⟨v, ev, hp, hbp, ho, herr⟩ := h
  have k : Only 0 [] w w' := Only.of_below hb (Nat.zero_le _)
  exact ⟨v, ev, k.block hp (by simp), hbp, ho.below hb, herr.only k (by simp)⟩

set_option maxRecDepth 20000 in
set_option maxHeartbeats 1000000 in
theorem text_any (base p : Nat) (s : List Nat × Nat) (t : ByteArray) (hl : s.1.length ≤ 900000000) (_ht : t.size ≤ maxLen) (w : World) (h : Wr base w p s.1 s.2) (hbase : base ≤ w.heap.size) :
    Calls Tryd.prog 60 #[.pointer (some ⟨p, 0, none⟩), .string t] w fun e w' => e = .returned (.tuple #[]) ∧ Wr base w' p (putText t s).1 (putText t s).2 ∧ Only base [5, 105] w w' := by
  obtain ⟨i0, hi, hz0, hz1, hz2⟩ := info_parts Tryd.info5
  have HW := hide h
  clear h
  by_cases hc : s.2 = 0 ∧ refuse 4 t.size = 0
  · have e1 : putText t s = ((putRule 4 t.size s).1 ++ bytesOf t, 0) := by unfold putText; rw [if_pos hc]
    have e2 : (putRule 4 t.size s).2 = 0 := by unfold putRule; rw [if_neg (by simp [hc.1]), if_neg (by simp [hc.2])]
    have hr := (refuse_range hc.2).2
    have hd : decide (s.2 = 0 ∧ refuse 4 t.size = 0) = true := decide_eq_true hc
    have hpl := putRule_len 4 t.size s
    rw [e1]
    have HD := hide hd
    have HE2 := hide e2
    clear e1 e2 hc hd
    go_enter Tryd.func60, Tryd.ntmps60
    go_wp2_with fail
    refine (ruled_any base p 4 (by decide) s t.size (by omega) w (unhide HW) hbase).mono ?_
    rw [unhide HD]
    rintro e w1 ⟨rfl, h1, k1⟩
    rw [unhide HE2] at h1
    obtain ⟨v, ev, hp, hbp, ho, herr⟩ := h1
    have c0 : w1.cell? ⟨p, 0, none⟩ = some v := (cell_of_block hp).trans rfl
    have s1 : base ≤ w1.heap.size := Nat.le_trans hbase k1.size
    have hown := ho.1
    have HP := hide hp
    have HO := hide ho
    have HE := hide herr
    have K1 := hide k1
    clear hp ho herr k1
    go_wp2_with (at_builtin; refine Lib.wpList_append_own_string _ rfl (.tmp 12) (.tmp 13) 27 9 rfl base 5 i0 Tryd.underlying27 Tryd.underlying9 hi hz0 hz1 hz2 _ _ _ rfl hown t rfl (by unfold maxLen; omega) (by omega) s1 ?_)
    intro v2 w2 own2 g2 _
    have k2 : Only base [5] w1 w2 := (Only.refl base [5] w1).own hown g2 s1 (Nat.le_refl _) (by simp)
    have hp2 := k2.block (unhide HP) (by decide)
    have o2 : Own base w2 v2 ((putRule 4 t.size s).1 ++ bytesOf t) := by
      refine ⟨?_, ?_⟩
      · rw [List.length_append, bytesOf_len, show u8s ((putRule 4 t.size s).1 ++ bytesOf t) = u8s (putRule 4 t.size s).1 ++ u8s (bytesOf t) by simp [u8s], bytesOf_cells]; exact own2
      · intro x hx
        rcases List.mem_append.1 hx with h | h
        · exact (unhide HO).2 x h
        · exact bytesOf_lt t x h
    obtain ⟨bb, hbb⟩ : ∃ bb, (putRule 4 t.size s).1 ++ bytesOf t = bb := ⟨_, rfl⟩
    rw [hbb] at o2
    have HBB := hide hbb
    clear hbb
    obtain ⟨ao2, cap2, rfl, _⟩ := o2.slice
    have d0 : w2.cell? ⟨p, 0, none⟩ = some v := (cell_of_block hp2).trans rfl
    have f0 : w2.frozen? ⟨p, 0, none⟩ = false := free_of_block hp2
    have HP2 := hide hp2
    have K2 := hide k2
    have O2 := hide o2
    clear hp2 k2 o2 c0 hown own2 g2
    go_wp2
    go_end0
    have k3 : ∀ u, Only base [105] w2 (w2.setCell ⟨p, 0, none⟩ u) := fun u => (Only.refl _ _ _).setCell (p := ⟨p, 0, none⟩) hbp u (unhide HP2) (by simp)
    refine ⟨rfl, ?_, (unhide K1).trans (((unhide K2).mono (Nat.le_refl _) (by simp)).trans ((k3 _).mono (Nat.le_refl _) (by simp)))⟩
    show Wr base _ p ((putRule 4 t.size s).1 ++ bytesOf t) 0
    rw [unhide HBB]
    exact ⟨_, ev, setCell_block (unhide HP2), hbp, (unhide O2).only (k3 _) (by decide), ((unhide HE).only (unhide K2) (by decide)).only (k3 _) (by decide)⟩
  · have e1 : putText t s = putRule 4 t.size s := by unfold putText; rw [if_neg hc]
    have hd : decide (s.2 = 0 ∧ refuse 4 t.size = 0) = false := decide_eq_false hc
    rw [e1]
    have HD := hide hd
    clear e1 hc hd
    go_enter Tryd.func60, Tryd.ntmps60
    go_wp2_with fail
    refine (ruled_any base p 4 (by decide) s t.size (by omega) w (unhide HW) hbase).mono ?_
    rw [unhide HD]
    rintro e w1 ⟨rfl, h1, k1⟩
    have H1 := hide h1
    have K1 := hide k1
    clear h1 k1
    go_wp2
    go_end0
    exact ⟨rfl, unhide H1, unhide K1⟩
end Go.Proofs.YtojmnlbdhpledaaDoor
namespace Go.Proofs.YtojmnlbdhpledaaDoor
open Go.RowKit

def putInts (ys : List Int) (s : List Nat × Nat) : List Nat × Nat := (s.1 ++ nums ys, s.2)
def putEntry (kind client seq : Int) (t : ByteArray) (ys : List Int) (to' : Int) (s : List Nat × Nat) : List Nat × Nat :=
  putRule 1 to' (putList 5 ys (putText t (putInts [client, seq] (putRule 0 kind s))))
theorem putText_len (t : ByteArray) (s : List Nat × Nat) : (putText t s).1.length ≤ s.1.length + 65 := by
  have := putRule_len 4 t.size s
  unfold putText; split
  · rename_i h
    have := (refuse_range h.2).2
    simp only [List.length_append, bytesOf_len]; omega
  · omega
theorem putList_len (q : Nat) (ys : List Int) (s : List Nat × Nat) : (putList q ys s).1.length ≤ s.1.length + 513 := by
  have := putRule_len q ys.length s
  unfold putList; split
  · rename_i h
    have := (refuse_range h.2).2
    simp only [List.length_append, nums_len]; omega
  · omega

set_option maxRecDepth 20000 in
set_option maxHeartbeats 1000000 in
theorem entry_any (base p : Nat) (s : List Nat × Nat) (kind client seq to' : Int) (t : ByteArray) (ht : t.size ≤ maxLen) (ao : Option Addr) (n cap : Nat) (ys : List Int) (hn : ys.length = n) (hl : s.1.length ≤ 800000000) (w : World) (h : Wr base w p s.1 s.2) (hy : Ints base [5, 105] w ao ys) (hbase : base ≤ w.heap.size) :
    Calls Tryd.prog 32 #[.pointer (some ⟨p, 0, none⟩), .agg #[.int .i64 kind, .int .i64 client, .int .i64 seq, .string t, .slice ao n cap, .int .i64 to']] w fun e w' => e = .returned (.tuple #[]) ∧ Wr base w' p (putEntry kind client seq t ys to' s).1 (putEntry kind client seq t ys to' s).2 ∧ Only base [5, 105] w w' := by
  have W0 := hide (h.below ((Below.refl _ w).alloc (Nat.le_refl _) (.cells #[.int .i64 kind, .int .i64 client, .int .i64 seq, .string t, .slice ao n cap, .int .i64 to'] 24)))
  have k0 : Only base [5, 105] w (w.alloc (.cells #[.int .i64 kind, .int .i64 client, .int .i64 seq, .string t, .slice ao n cap, .int .i64 to'] 24)) := (Only.refl _ _ _).alloc hbase _
  have K0 := hide k0
  have Y0 := hide (hy.only k0)
  have box0 := heap_alloc_new w (.cells #[.int .i64 kind, .int .i64 client, .int .i64 seq, .string t, .slice ao n cap, .int .i64 to'] 24)
  have X0 := hide box0
  have s0 : base ≤ (w.alloc (.cells #[.int .i64 kind, .int .i64 client, .int .i64 seq, .string t, .slice ao n cap, .int .i64 to'] 24)).heap.size := Nat.le_trans hbase k0.size
  have S0 := hide s0
  have HN := hide hn
  have HT := hide ht
  have l1 := putRule_len 0 kind s
  have L2 : Hid ((putInts [client, seq] (putRule 0 kind s)).1.length = (putRule 0 kind s).1.length + 16) := by show _ = _; unfold putInts; rw [List.length_append, nums_len]; rfl
  have L3 := hide (putText_len t (putInts [client, seq] (putRule 0 kind s)))
  have L4 := hide (putList_len 5 ys (putText t (putInts [client, seq] (putRule 0 kind s))))
  clear h hy k0 box0 s0 hn ht
  go_enter Tryd.func32, Tryd.ntmps32
  go_wp2_with fail
  refine (ruled_any base p 0 (by decide) s kind (by omega) _ (unhide W0) (unhide S0)).mono ?_
  rintro e w1 ⟨rfl, h1, k1⟩
  have x1 := k1.block (unhide X0) (by decide)
  have c1 : w1.cell? ⟨w.heap.size, 1, none⟩ = some (.int .i64 client) := (cell_of_block x1).trans rfl
  have c2 : w1.cell? ⟨w.heap.size, 2, none⟩ = some (.int .i64 seq) := (cell_of_block x1).trans rfl
  have s1 : base ≤ w1.heap.size := Nat.le_trans (unhide S0) k1.size
  have H1 := hide h1
  have X1 := hide x1
  have K1 := hide ((unhide K0).trans k1)
  have Y1 := hide ((unhide Y0).only k1)
  clear h1 x1 k1
  go_wp2_with fail
  have ki : Only base [5, 105] w1 (w1.alloc (.cells #[.int .i64 client, .int .i64 seq] 3)) := (Only.refl _ _ _).alloc s1 _
  have hin : Ints base [5, 105] (w1.alloc (.cells #[.int .i64 client, .int .i64 seq] 3)) (some ⟨w1.heap.size, 0, none⟩) [client, seq] := by
    intro i hi
    have hb := heap_alloc_new w1 (.cells #[.int .i64 client, .int .i64 seq] 3)
    refine ⟨_, rfl, ?_, Or.inr ⟨_, _, _, hb, by decide⟩⟩
    rw [Addr.add_lit, cell_of_block hb]
    have hi' : i = 0 ∨ i = 1 := by simp at hi; omega
    rcases hi' with rfl | rfl <;> rfl
  refine (ints_any base p _ _ (some ⟨w1.heap.size, 0, none⟩) 2 2 [client, seq] rfl _ ((unhide H1).below ((Below.refl _ _).alloc (Nat.le_refl _) _)) hin (Nat.le_trans s1 ki.size) (by omega)).mono ?_
  rintro e w2 ⟨rfl, h2, k2'⟩
  have k2 := ki.trans k2'
  have x2 := k2.block (unhide X1) (by decide)
  have d3 : w2.cell? ⟨w.heap.size, 3, none⟩ = some (.string t) := (cell_of_block x2).trans rfl
  have s2 : base ≤ w2.heap.size := Nat.le_trans s1 k2.size
  have H2 : Hid (Wr base w2 p (putInts [client, seq] (putRule 0 kind s)).1 (putInts [client, seq] (putRule 0 kind s)).2) := h2
  have X2 := hide x2
  have K2 := hide ((unhide K1).trans k2)
  have Y2 := hide ((unhide Y1).only k2)
  clear h2 x2 k2 k2' ki hin c1 c2
  go_wp2_with fail
  refine (text_any base p _ t (by have := unhide L2; omega) (unhide HT) w2 (unhide H2) s2).mono ?_
  rintro e w3 ⟨rfl, h3, k3⟩
  have x3 := k3.block (unhide X2) (by decide)
  have e4 : w3.cell? ⟨w.heap.size, 4, none⟩ = some (.slice ao n cap) := (cell_of_block x3).trans rfl
  have s3 : base ≤ w3.heap.size := Nat.le_trans s2 k3.size
  have H3 := hide h3
  have X3 := hide x3
  have K3 := hide ((unhide K2).trans k3)
  have Y3 := hide ((unhide Y2).only k3)
  clear h3 x3 k3 d3
  go_wp2_with fail
  refine (list_any base p 5 (by decide) _ ao n cap ys (unhide HN) (by have := unhide L2; have := unhide L3; omega) w3 (unhide H3) (unhide Y3) s3).mono ?_
  rintro e w4 ⟨rfl, h4, k4⟩
  have x4 := k4.block (unhide X3) (by decide)
  have g5 : w4.cell? ⟨w.heap.size, 5, none⟩ = some (.int .i64 to') := (cell_of_block x4).trans rfl
  have s4 : base ≤ w4.heap.size := Nat.le_trans s3 k4.size
  have H4 := hide h4
  have K4 := hide ((unhide K3).trans k4)
  clear h4 x4 k4 e4
  go_wp2_with fail
  refine (ruled_any base p 1 (by decide) _ to' (by have := unhide L2; have := unhide L3; have := unhide L4; omega) w4 (unhide H4) s4).mono ?_
  rintro e w5 ⟨rfl, h5, k5⟩
  have H5 := hide h5
  have K5 := hide ((unhide K4).trans k5)
  clear h5 k5 g5
  go_wp2
  go_end0
  exact ⟨rfl, unhide H5, unhide K5⟩
end Go.Proofs.YtojmnlbdhpledaaDoor
namespace Go.Proofs.YtojmnlbdhpledaaDoor
open Go.RowKit

def putConfig (xs ys : List Int) (s : List Nat × Nat) : List Nat × Nat := putList 5 ys (putList 5 xs s)

set_option maxRecDepth 20000 in
set_option maxHeartbeats 1000000 in
theorem config_any (base p : Nat) (s : List Nat × Nat) (ao bo : Option Addr) (n m ca cb : Nat) (xs ys : List Int) (hn : xs.length = n) (hm : ys.length = m) (hl : s.1.length ≤ 800000000) (w : World) (h : Wr base w p s.1 s.2) (hx : Ints base [5, 105] w ao xs) (hy : Ints base [5, 105] w bo ys) (hbase : base ≤ w.heap.size) :
    Calls Tryd.prog 43 #[.pointer (some ⟨p, 0, none⟩), .agg #[.slice ao n ca, .slice bo m cb]] w fun e w' => e = .returned (.tuple #[]) ∧ Wr base w' p (putConfig xs ys s).1 (putConfig xs ys s).2 ∧ Only base [5, 105] w w' := by
  have W0 := hide (h.below ((Below.refl _ w).alloc (Nat.le_refl _) (.cells #[.slice ao n ca, .slice bo m cb] 39)))
  have k0 : Only base [5, 105] w (w.alloc (.cells #[.slice ao n ca, .slice bo m cb] 39)) := (Only.refl _ _ _).alloc hbase _
  have K0 := hide k0
  have X0 := hide (hx.only k0)
  have Y0 := hide (hy.only k0)
  have B0 := hide (heap_alloc_new w (.cells #[.slice ao n ca, .slice bo m cb] 39))
  have S0 := hide (Nat.le_trans hbase k0.size)
  have HN := hide hn
  have HM := hide hm
  have L1 := hide (putList_len 5 xs s)
  clear h hx hy k0 hn hm
  go_enter Tryd.func43, Tryd.ntmps43
  go_wp2_with fail
  refine (list_any base p 5 (by decide) s ao n ca xs (unhide HN) (by omega) _ (unhide W0) (unhide X0) (unhide S0)).mono ?_
  rintro e w1 ⟨rfl, h1, k1⟩
  have x1 := k1.block (unhide B0) (by decide)
  have c1 : w1.cell? ⟨w.heap.size, 1, none⟩ = some (.slice bo m cb) := (cell_of_block x1).trans rfl
  have H1 := hide h1
  have K1 := hide ((unhide K0).trans k1)
  have Y1 := hide ((unhide Y0).only k1)
  have s1 : base ≤ w1.heap.size := Nat.le_trans (unhide S0) k1.size
  clear h1 x1 k1
  go_wp2_with fail
  refine (list_any base p 5 (by decide) _ bo m cb ys (unhide HM) (by have := unhide L1; omega) w1 (unhide H1) (unhide Y1) s1).mono ?_
  rintro e w2 ⟨rfl, h2, k2⟩
  have H2 := hide h2
  have K2 := hide ((unhide K1).trans k2)
  clear h2 k2 c1
  go_wp2
  go_end0
  exact ⟨rfl, unhide H2, unhide K2⟩
end Go.Proofs.YtojmnlbdhpledaaDoor
namespace Go.Proofs.YtojmnlbdhpledaaDoor
open Go.RowKit

structure En where
  kind : Int
  client : Int
  seq : Int
  text : ByteArray
  ms : List Int
  to : Int
instance : Inhabited En := ⟨⟨0, 0, 0, ByteArray.empty, [], 0⟩⟩
def putE (e : En) (s : List Nat × Nat) : List Nat × Nat := putEntry e.kind e.client e.seq e.text e.ms e.to s
def putEs (es : List En) (s : List Nat × Nat) : List Nat × Nat := es.foldl (fun s e => putE e s) s
def putEntries (es : List En) (s : List Nat × Nat) : List Nat × Nat :=
  if s.2 = 0 ∧ refuse 6 es.length = 0 then putEs es (putRule 6 es.length s) else putRule 6 es.length s
theorem putE_len (e : En) (s : List Nat × Nat) : (putE e s).1.length ≤ s.1.length + 600 := by
  have h1 := putRule_len 0 e.kind s
  have h2 : (putInts [e.client, e.seq] (putRule 0 e.kind s)).1.length = (putRule 0 e.kind s).1.length + 16 := by unfold putInts; rw [List.length_append, nums_len]; rfl
  have h3 := putText_len e.text (putInts [e.client, e.seq] (putRule 0 e.kind s))
  have h4 := putList_len 5 e.ms (putText e.text (putInts [e.client, e.seq] (putRule 0 e.kind s)))
  have h5 := putRule_len 1 e.to (putList 5 e.ms (putText e.text (putInts [e.client, e.seq] (putRule 0 e.kind s))))
  unfold putE putEntry
  omega
theorem putEs_len : ∀ (es : List En) (s : List Nat × Nat), (putEs es s).1.length ≤ s.1.length + 600 * es.length
  | [], s => by simp [putEs]
  | e :: es, s => by
    have h1 := putEs_len es (putE e s)
    have h2 := putE_len e s
    have e1 : putEs (e :: es) s = putEs es (putE e s) := rfl
    rw [e1]
    simp only [List.length_cons]
    omega
theorem putEs_snoc (es : List En) (e : En) (s : List Nat × Nat) : putEs (es ++ [e]) s = putE e (putEs es s) := by simp [putEs]

/-- a slice's entries, which stay. -/
def Ents (base : Nat) (ts : List TypeId) (w : World) (ao : Option Addr) (es : List En) : Prop :=
  ∀ i, i < es.length → ∃ blk off r cx, ao = some ⟨blk, off, none⟩ ∧ w.cell? ⟨blk, off + i * 6, none⟩ = some (.int .i64 (es.getD i default).kind) ∧ w.cell? ⟨blk, off + i * 6 + 1, none⟩ = some (.int .i64 (es.getD i default).client) ∧ w.cell? ⟨blk, off + i * 6 + 2, none⟩ = some (.int .i64 (es.getD i default).seq) ∧
    w.cell? ⟨blk, off + i * 6 + 3, none⟩ = some (.string (es.getD i default).text) ∧ w.cell? ⟨blk, off + i * 6 + 4, none⟩ = some (.slice r (es.getD i default).ms.length cx) ∧ w.cell? ⟨blk, off + i * 6 + 5, none⟩ = some (.int .i64 (es.getD i default).to) ∧
    Ints base ts w r (es.getD i default).ms ∧ (es.getD i default).text.size ≤ maxLen ∧ Stay base ts w blk
theorem Ents.only {base : Nat} {ts : List TypeId} {w w' : World} {ao : Option Addr} {es : List En} (h : Ents base ts w ao es) (ho : Only base ts w w') : Ents base ts w' ao es := fun i hi => by
  obtain ⟨blk, off, r, cx, e, h0, h1, h2, h3, h4, h5, hm, ht, hs⟩ := h i hi
  have hc : ∀ o, w'.cell? ⟨blk, o, none⟩ = w.cell? ⟨blk, o, none⟩ := fun o => World.cell?_of_block (w := w) (a := ⟨blk, o, none⟩) (hs.heap ho)
  exact ⟨blk, off, r, cx, e, by rw [hc]; exact h0, by rw [hc]; exact h1, by rw [hc]; exact h2, by rw [hc]; exact h3, by rw [hc]; exact h4, by rw [hc]; exact h5, hm.only ho, ht, hs.only ho⟩

set_option maxRecDepth 20000 in
set_option maxHeartbeats 1000000 in
theorem entries_any (base p : Nat) (s : List Nat × Nat) (ao : Option Addr) (n cap : Nat) (es : List En) (hn : es.length = n) (hnm : n ≤ 9223372036854775807) (hl : s.1.length ≤ 700000000) (w : World) (h : Wr base w p s.1 s.2) (hy : Ents base [5, 105] w ao es) (hbase : base ≤ w.heap.size) :
    Calls Tryd.prog 68 #[.pointer (some ⟨p, 0, none⟩), .slice ao n cap] w fun e w' => e = .returned (.tuple #[]) ∧ Wr base w' p (putEntries es s).1 (putEntries es s).2 ∧ Only base [5, 105] w w' := by
  have HW := hide h
  have HY := hide hy
  have HN := hide hn
  clear h hy hn
  by_cases hc : s.2 = 0 ∧ refuse 6 n = 0
  · have e1 : putEntries es s = putEs es (putRule 6 n s) := by unfold putEntries; rw [unhide HN, if_pos hc]
    have hr := (refuse_range hc.2).2
    have hd : decide (s.2 = 0 ∧ refuse 6 n = 0) = true := decide_eq_true hc
    have hpl := putRule_len 6 n s
    rw [e1]
    have HD := hide hd
    clear e1 hc hd
    go_enter Tryd.func68, Tryd.ntmps68
    go_wp2_with fail
    refine (ruled_any base p 6 (by decide) s n (by omega) w (unhide HW) hbase).mono ?_
    rw [unhide HD]
    rintro e w1 ⟨rfl, h1, k1⟩
    have H1 := hide h1
    have K1 := hide k1
    have s1 : base ≤ w1.heap.size := Nat.le_trans hbase k1.size
    have Y1 := hide ((unhide HY).only k1)
    clear h1 k1 HY
    go_wp2_with fail
    go_loopg [13] n (fun g iv wr => ∃ k : Nat, k + g = n ∧ iv = .int .i64 (k : Int) ∧ Wr base wr p (putEs (es.take k) (putRule 6 n s)).1 (putEs (es.take k) (putRule 6 n s)).2 ∧ Only base [5, 105] w1 wr)
    case atStart => exact ⟨0, by omega, rfl, unhide H1, Only.refl _ _ _⟩
    case round =>
      obtain ⟨k, hg, rfl, hwr, hon⟩ := hrel
      have HG := hide hg
      have HO := hide hon
      have HWR := hide hwr
      have hkn : k ≤ n := by omega
      clear hg hon hwr H1
      by_cases hlt : k < n
      · obtain ⟨blk, off, r, cx, rfl, h0, h1, h2, h3, h4, h5, hm, ht, _⟩ := ((unhide Y1).only (unhide HO)) k (by rw [unhide HN]; exact hlt)
        have hs : es.take (k + 1) = es.take k ++ [es.getD k default] := take_succ es default k (by rw [unhide HN]; exact hlt)
        generalize es.getD k default = en at *
        obtain ⟨kind, client, seq, text, ms, to'⟩ := en
        simp only at h0 h1 h2 h3 h4 h5 hm ht
        have hlen := putEs_len (es.take k) (putRule 6 n s)
        rw [List.length_take, unhide HN] at hlen
        obtain ⟨lm, elm⟩ : ∃ lm, ms.length = lm := ⟨_, rfl⟩
        rw [elm] at h4
        have s2 : base ≤ wr.heap.size := Nat.le_trans s1 (unhide HO).size
        have ka : Only base [5, 105] wr (wr.alloc (.cells #[.int .i64 kind, .int .i64 client, .int .i64 seq, .string text, .slice r lm cx, .int .i64 to'] 24)) := (Only.refl _ _ _).alloc s2 _
        have WA := hide ((unhide HWR).below ((Below.refl _ wr).alloc (Nat.le_refl _) (.cells #[.int .i64 kind, .int .i64 client, .int .i64 seq, .string text, .slice r lm cx, .int .i64 to'] 24)))
        have MA := hide (hm.only ka)
        have SA := hide (Nat.le_trans s2 ka.size)
        have KA := hide ((unhide HO).trans ka)
        have HS := hide hs
        have ELM := hide elm
        have HT := hide ht
        have HLEN := hide hlen
        clear hs ka hm elm ht hlen
        go_wp2_with fail
        refine (entry_any base p (putEs (es.take k) (putRule 6 n s)) kind client seq to' text (unhide HT) r lm cx ms (unhide ELM) (by have := unhide HLEN; omega) _ (unhide WA) (unhide MA) (unhide SA)).mono ?_
        rintro e w3 ⟨rfl, h6, k6⟩
        have H6 : Hid (Wr base w3 p (putEs (es.take (k + 1)) (putRule 6 n s)).1 (putEs (es.take (k + 1)) (putRule 6 n s)).2) := by
          show Wr _ _ _ _ _
          rw [unhide HS, putEs_snoc]; exact h6
        have K6 := hide ((unhide KA).trans k6)
        clear h6 k6 h0 h1 h2 h3 h4 h5
        go_wp2
        go_roundg (n - (k + 1))
        case measure => have := unhide HG; omega
        case rel => exact ⟨k + 1, by omega, by go_num, unhide H6, unhide K6⟩
      · obtain rfl : k = n := by omega
        have et : es.take k = es := by rw [← unhide HN, List.take_length]
        have HET := hide et
        clear et
        go_wp2
        go_end0
        have h6 := unhide HWR
        rw [unhide HET] at h6
        exact ⟨rfl, h6, (unhide K1).trans (unhide HO)⟩
  · have e1 : putEntries es s = putRule 6 n s := by unfold putEntries; rw [unhide HN, if_neg hc]
    have hd : decide (s.2 = 0 ∧ refuse 6 n = 0) = false := decide_eq_false hc
    rw [e1]
    have HD := hide hd
    clear e1 hc hd
    go_enter Tryd.func68, Tryd.ntmps68
    go_wp2_with fail
    refine (ruled_any base p 6 (by decide) s n (by omega) w (unhide HW) hbase).mono ?_
    rw [unhide HD]
    rintro e w1 ⟨rfl, h1, k1⟩
    have H1 := hide h1
    have K1 := hide k1
    clear h1 k1
    go_wp2
    (try simp only [Exit.inBlock, Exit.then])
    refine bodyPost_ret (results_none rfl _ _ _) rfl ?_
    exact ⟨rfl, unhide H1, unhide K1⟩
end Go.Proofs.YtojmnlbdhpledaaDoor
namespace Go.Proofs.YtojmnlbdhpledaaDoor
open Go.RowKit

theorem ints_new (base : Nat) (w : World) (ys : List Int) : Ints base [5, 105] (w.alloc (.cells (ys.map fun y => Value.int .i64 y).toArray 3)) (some ⟨w.heap.size, 0, none⟩) ys := by
  intro i hi
  have hb := heap_alloc_new w (.cells (ys.map fun y => Value.int .i64 y).toArray 3)
  refine ⟨_, rfl, ?_, Or.inr ⟨_, _, _, hb, by decide⟩⟩
  rw [Addr.add_lit, cell_of_block hb]
  simp [List.getD_eq_getElem?_getD, List.getElem?_eq_getElem hi]
theorem bit_any (b : Bool) (w : World) : Calls Tryd.prog 67 #[.bool b] w fun e w' => e = .returned (.int .i64 (if b = true then 1 else 0)) ∧ w' = w := by
  cases b with
  | true =>
    go_enter Tryd.func67, Tryd.ntmps67
    go_wp2
    go_ret
    exact ⟨rfl, rfl⟩
  | false =>
    go_enter Tryd.func67, Tryd.ntmps67
    go_wp2
    go_ret
    exact ⟨rfl, rfl⟩

def bitOf (b : Bool) : Int := if b = true then 1 else 0
def putMsg (from' to' gen kind term index last commit : Int) (yes : Bool) (terms : List Int) (es : List En) (old new : List Int) (s : List Nat × Nat) : List Nat × Nat :=
  putConfig old new (putEntries es (putList 6 terms (putRule 3 (bitOf yes) (putInts [term, index, last, commit] (putRule 2 kind (putInts [from', to', gen] s))))))
theorem putInts_len (ys : List Int) (s : List Nat × Nat) : (putInts ys s).1.length = s.1.length + 8 * ys.length := by unfold putInts; rw [List.length_append, nums_len]
theorem putEntries_len (es : List En) (s : List Nat × Nat) : (putEntries es s).1.length ≤ s.1.length + 40000 := by
  have h1 := putRule_len 6 es.length s
  unfold putEntries
  split
  · rename_i h
    have h2 := (refuse_range h.2).2
    have h3 := putEs_len es (putRule 6 es.length s)
    omega
  · omega

set_option maxRecDepth 20000 in
set_option maxHeartbeats 2000000 in
theorem msg_any (base p : Nat) (s : List Nat × Nat) (from' to' gen kind term index last commit : Int) (yes : Bool) (aot : Option Addr) (nt ct : Nat) (terms : List Int) (hnt : terms.length = nt) (aoe : Option Addr) (ne ce : Nat) (es : List En) (hne : es.length = ne) (hnm : ne ≤ 9223372036854775807)
    (aoo aon : Option Addr) (no nn co cn : Nat) (old new : List Int) (hno : old.length = no) (hnn : new.length = nn) (hl : s.1.length ≤ 600000000) (w : World) (h : Wr base w p s.1 s.2)
    (ht : Ints base [5, 105] w aot terms) (he : Ents base [5, 105] w aoe es) (ho : Ints base [5, 105] w aoo old) (hw : Ints base [5, 105] w aon new) (hbase : base ≤ w.heap.size) :
    Calls Tryd.prog 39 #[.pointer (some ⟨p, 0, none⟩), .agg #[.int .i64 from', .int .i64 to', .int .i64 gen, .int .i64 kind, .int .i64 term, .int .i64 index, .int .i64 last, .int .i64 commit, .bool yes, .slice aot nt ct, .slice aoe ne ce, .slice aoo no co, .slice aon nn cn]] w fun e w' => e = .returned (.tuple #[]) ∧
      Wr base w' p (putMsg from' to' gen kind term index last commit yes terms es old new s).1 (putMsg from' to' gen kind term index last commit yes terms es old new s).2 ∧ Only base [5, 105] w w' := by
  have k0 : Only base [5, 105] w (w.alloc (.cells #[.int .i64 from', .int .i64 to', .int .i64 gen, .int .i64 kind, .int .i64 term, .int .i64 index, .int .i64 last, .int .i64 commit, .bool yes, .slice aot nt ct, .slice aoe ne ce, .slice aoo no co, .slice aon nn cn] 41)) := (Only.refl _ _ _).alloc hbase _
  have x0 := heap_alloc_new w (.cells #[.int .i64 from', .int .i64 to', .int .i64 gen, .int .i64 kind, .int .i64 term, .int .i64 index, .int .i64 last, .int .i64 commit, .bool yes, .slice aot nt ct, .slice aoe ne ce, .slice aoo no co, .slice aon nn cn] 41)
  have s0 := Nat.le_trans hbase k0.size
  have w0 := h.below ((Below.refl _ w).alloc (Nat.le_refl _) (.cells #[.int .i64 from', .int .i64 to', .int .i64 gen, .int .i64 kind, .int .i64 term, .int .i64 index, .int .i64 last, .int .i64 commit, .bool yes, .slice aot nt ct, .slice aoe ne ce, .slice aoo no co, .slice aon nn cn] 41))
  have ki : Only base [5, 105] (w.alloc (.cells #[.int .i64 from', .int .i64 to', .int .i64 gen, .int .i64 kind, .int .i64 term, .int .i64 index, .int .i64 last, .int .i64 commit, .bool yes, .slice aot nt ct, .slice aoe ne ce, .slice aoo no co, .slice aon nn cn] 41)) ((w.alloc (.cells #[.int .i64 from', .int .i64 to', .int .i64 gen, .int .i64 kind, .int .i64 term, .int .i64 index, .int .i64 last, .int .i64 commit, .bool yes, .slice aot nt ct, .slice aoe ne ce, .slice aoo no co, .slice aon nn cn] 41)).alloc (.cells #[.int .i64 from', .int .i64 to', .int .i64 gen] 3)) := (Only.refl _ _ _).alloc s0 _
  have W1 := hide (w0.below ((Below.refl _ (w.alloc (.cells #[.int .i64 from', .int .i64 to', .int .i64 gen, .int .i64 kind, .int .i64 term, .int .i64 index, .int .i64 last, .int .i64 commit, .bool yes, .slice aot nt ct, .slice aoe ne ce, .slice aoo no co, .slice aon nn cn] 41))).alloc (Nat.le_refl _) (.cells #[.int .i64 from', .int .i64 to', .int .i64 gen] 3)))
  have I1 : Hid (Ints base [5, 105] ((w.alloc (.cells #[.int .i64 from', .int .i64 to', .int .i64 gen, .int .i64 kind, .int .i64 term, .int .i64 index, .int .i64 last, .int .i64 commit, .bool yes, .slice aot nt ct, .slice aoe ne ce, .slice aoo no co, .slice aon nn cn] 41)).alloc (.cells #[.int .i64 from', .int .i64 to', .int .i64 gen] 3)) (some ⟨w.heap.size + 1, 0, none⟩) [from', to', gen]) := by
    have h1 := ints_new base (w.alloc (.cells #[.int .i64 from', .int .i64 to', .int .i64 gen, .int .i64 kind, .int .i64 term, .int .i64 index, .int .i64 last, .int .i64 commit, .bool yes, .slice aot nt ct, .slice aoe ne ce, .slice aoo no co, .slice aon nn cn] 41)) [from', to', gen]
    have e1 : (w.alloc (.cells #[.int .i64 from', .int .i64 to', .int .i64 gen, .int .i64 kind, .int .i64 term, .int .i64 index, .int .i64 last, .int .i64 commit, .bool yes, .slice aot nt ct, .slice aoe ne ce, .slice aoo no co, .slice aon nn cn] 41)).heap.size = w.heap.size + 1 := by simp
    rw [e1] at h1
    exact h1
  have X1 := hide (ki.block x0 (by decide))
  have S1 := hide (Nat.le_trans s0 ki.size)
  have kk := k0.trans ki
  have K1 := hide kk
  have T1 := hide (ht.only kk)
  have E1 := hide (he.only kk)
  have O1 := hide (ho.only kk)
  have N1 := hide (hw.only kk)
  have HNT := hide hnt
  have HNE := hide hne
  have HNO := hide hno
  have HNN := hide hnn
  obtain ⟨s1, es1⟩ : ∃ s1, putInts [from', to', gen] s = s1 := ⟨_, rfl⟩
  obtain ⟨s2, es2⟩ : ∃ s2, putRule 2 kind s1 = s2 := ⟨_, rfl⟩
  obtain ⟨s3, es3⟩ : ∃ s3, putInts [term, index, last, commit] s2 = s3 := ⟨_, rfl⟩
  obtain ⟨s4, es4⟩ : ∃ s4, putRule 3 (bitOf yes) s3 = s4 := ⟨_, rfl⟩
  obtain ⟨s5, es5⟩ : ∃ s5, putList 6 terms s4 = s5 := ⟨_, rfl⟩
  obtain ⟨s6, es6⟩ : ∃ s6, putEntries es s5 = s6 := ⟨_, rfl⟩
  obtain ⟨s7, es7⟩ : ∃ s7, putConfig old new s6 = s7 := ⟨_, rfl⟩
  have em : putMsg from' to' gen kind term index last commit yes terms es old new s = s7 := by unfold putMsg; rw [es1, es2, es3, es4, es5, es6, es7]
  rw [em]
  have l1 : s1.1.length = s.1.length + 24 := by rw [← es1, putInts_len]; rfl
  have l2 : s2.1.length ≤ s1.1.length + 1 := by rw [← es2]; exact putRule_len _ _ _
  have l3 : s3.1.length = s2.1.length + 32 := by rw [← es3, putInts_len]; rfl
  have l4 : s4.1.length ≤ s3.1.length + 1 := by rw [← es4]; exact putRule_len _ _ _
  have l5 : s5.1.length ≤ s4.1.length + 513 := by rw [← es5]; exact putList_len _ _ _
  have l6 : s6.1.length ≤ s5.1.length + 40000 := by rw [← es6]; exact putEntries_len _ _
  have LL : Hid (s1.1.length ≤ 700000000 ∧ s2.1.length ≤ 700000000 ∧ s3.1.length ≤ 700000000 ∧ s4.1.length ≤ 700000000 ∧ s5.1.length ≤ 700000000 ∧ s6.1.length ≤ 700000000) := by show _ ∧ _; omega
  have ES1 := hide es1
  have ES2 := hide es2
  have ES3 := hide es3
  have ES4 := hide es4
  have ES5 := hide es5
  have ES6 := hide es6
  have ES7 := hide es7
  clear em l1 l2 l3 l4 l5 l6 es1 es2 es3 es4 es5 es6 es7 k0 x0 s0 w0 ki kk h ht he ho hw hnt hne hno hnn
  go_enter Tryd.func39, Tryd.ntmps39
  go_wp2_with fail
  refine (ints_any base p s.1 s.2 _ 3 3 [from', to', gen] rfl _ (unhide W1) (unhide I1) (unhide S1) (by omega)).mono ?_
  rintro e w1 ⟨rfl, h1, k1⟩
  have x1 := k1.block (unhide X1) (by decide)
  have c3 : w1.cell? ⟨w.heap.size, 3, none⟩ = some (.int .i64 kind) := (cell_of_block x1).trans rfl
  have H1 : Hid (Wr base w1 p s1.1 s1.2) := by show Wr _ _ _ _ _; rw [← unhide ES1]; exact h1
  have X2 := hide x1
  have K2 := hide ((unhide K1).trans k1)
  have T2 := hide ((unhide T1).only k1)
  have E2 := hide ((unhide E1).only k1)
  have O2 := hide ((unhide O1).only k1)
  have N2 := hide ((unhide N1).only k1)
  have b1 := Nat.le_trans (unhide S1) k1.size
  clear h1 k1 x1
  go_wp2_with fail
  refine (ruled_any base p 2 (by decide) s1 kind (by have := unhide LL; omega) w1 (unhide H1) b1).mono ?_
  rintro e w2 ⟨rfl, h2, k2⟩
  have x2 := k2.block (unhide X2) (by decide)
  have c4 : w2.cell? ⟨w.heap.size, 4, none⟩ = some (.int .i64 term) := (cell_of_block x2).trans rfl
  have c5 : w2.cell? ⟨w.heap.size, 5, none⟩ = some (.int .i64 index) := (cell_of_block x2).trans rfl
  have c6 : w2.cell? ⟨w.heap.size, 6, none⟩ = some (.int .i64 last) := (cell_of_block x2).trans rfl
  have c7 : w2.cell? ⟨w.heap.size, 7, none⟩ = some (.int .i64 commit) := (cell_of_block x2).trans rfl
  have b2 := Nat.le_trans b1 k2.size
  have h2' : Wr base w2 p s2.1 s2.2 := by rw [← unhide ES2]; exact h2
  have ka : Only base [5, 105] w2 (w2.alloc (.cells #[.int .i64 term, .int .i64 index, .int .i64 last, .int .i64 commit] 3)) := (Only.refl _ _ _).alloc b2 _
  have H2 := hide (h2'.below ((Below.refl _ w2).alloc (Nat.le_refl _) (.cells #[.int .i64 term, .int .i64 index, .int .i64 last, .int .i64 commit] 3)))
  have I2 : Hid (Ints base [5, 105] (w2.alloc (.cells #[.int .i64 term, .int .i64 index, .int .i64 last, .int .i64 commit] 3)) (some ⟨w2.heap.size, 0, none⟩) [term, index, last, commit]) := ints_new base w2 [term, index, last, commit]
  have kb := k2.trans ka
  have X3 := hide (ka.block x2 (by decide))
  have K3 := hide ((unhide K2).trans kb)
  have T3 := hide ((unhide T2).only kb)
  have E3 := hide ((unhide E2).only kb)
  have O3 := hide ((unhide O2).only kb)
  have N3 := hide ((unhide N2).only kb)
  have S3 := hide (Nat.le_trans b2 ka.size)
  clear h2 h2' k2 x2 ka kb c3
  go_wp2_with fail
  refine (ints_any base p s2.1 s2.2 _ 4 4 [term, index, last, commit] rfl _ (unhide H2) (unhide I2) (unhide S3) (by have := unhide LL; omega)).mono ?_
  rintro e w3 ⟨rfl, h3, k3⟩
  have x3 := k3.block (unhide X3) (by decide)
  have c8 : w3.cell? ⟨w.heap.size, 8, none⟩ = some (.bool yes) := (cell_of_block x3).trans rfl
  have H3 : Hid (Wr base w3 p s3.1 s3.2) := by show Wr _ _ _ _ _; rw [← unhide ES3]; exact h3
  have X4 := hide x3
  have K4 := hide ((unhide K3).trans k3)
  have T4 := hide ((unhide T3).only k3)
  have E4 := hide ((unhide E3).only k3)
  have O4 := hide ((unhide O3).only k3)
  have N4 := hide ((unhide N3).only k3)
  have b3 := Nat.le_trans (unhide S3) k3.size
  clear h3 k3 x3 c4 c5 c6 c7
  go_wp2_with fail
  refine (bit_any yes w3).mono ?_
  rintro e w3' ⟨rfl, rfl⟩
  have eb : (if yes = true then (1 : Int) else 0) = bitOf yes := rfl
  rw [eb]
  go_wp2_with fail
  refine (ruled_any base p 3 (by decide) s3 (bitOf yes) (by have := unhide LL; omega) w3' (unhide H3) b3).mono ?_
  rintro e w4 ⟨rfl, h4, k4⟩
  have x4 := k4.block (unhide X4) (by decide)
  have c9 : w4.cell? ⟨w.heap.size, 9, none⟩ = some (.slice aot nt ct) := (cell_of_block x4).trans rfl
  have H4 : Hid (Wr base w4 p s4.1 s4.2) := by show Wr _ _ _ _ _; rw [← unhide ES4]; exact h4
  have X5 := hide x4
  have K5 := hide ((unhide K4).trans k4)
  have T5 := hide ((unhide T4).only k4)
  have E5 := hide ((unhide E4).only k4)
  have O5 := hide ((unhide O4).only k4)
  have N5 := hide ((unhide N4).only k4)
  have b4 := Nat.le_trans b3 k4.size
  clear h4 k4 x4 c8 eb
  go_wp2_with fail
  refine (list_any base p 6 (by decide) s4 aot nt ct terms (unhide HNT) (by have := unhide LL; omega) w4 (unhide H4) (unhide T5) b4).mono ?_
  rintro e w5 ⟨rfl, h5, k5⟩
  have x5 := k5.block (unhide X5) (by decide)
  have c10 : w5.cell? ⟨w.heap.size, 10, none⟩ = some (.slice aoe ne ce) := (cell_of_block x5).trans rfl
  have H5 : Hid (Wr base w5 p s5.1 s5.2) := by show Wr _ _ _ _ _; rw [← unhide ES5]; exact h5
  have X6 := hide x5
  have K6 := hide ((unhide K5).trans k5)
  have E6 := hide ((unhide E5).only k5)
  have O6 := hide ((unhide O5).only k5)
  have N6 := hide ((unhide N5).only k5)
  have b5 := Nat.le_trans b4 k5.size
  clear h5 k5 x5 c9
  go_wp2_with fail
  refine (entries_any base p s5 aoe ne ce es (unhide HNE) hnm (by have := unhide LL; omega) w5 (unhide H5) (unhide E6) b5).mono ?_
  rintro e w6 ⟨rfl, h6, k6⟩
  have x6 := k6.block (unhide X6) (by decide)
  have c11 : w6.cell? ⟨w.heap.size, 11, none⟩ = some (.slice aoo no co) := (cell_of_block x6).trans rfl
  have c12 : w6.cell? ⟨w.heap.size, 12, none⟩ = some (.slice aon nn cn) := (cell_of_block x6).trans rfl
  have H6 : Hid (Wr base w6 p s6.1 s6.2) := by show Wr _ _ _ _ _; rw [← unhide ES6]; exact h6
  have K7 := hide ((unhide K6).trans k6)
  have O7 := hide ((unhide O6).only k6)
  have N7 := hide ((unhide N6).only k6)
  have b6 := Nat.le_trans b5 k6.size
  clear h6 k6 x6 c10
  go_wp2_with fail
  refine (config_any base p s6 aoo aon no nn co cn old new (unhide HNO) (unhide HNN) (by have := unhide LL; omega) w6 (unhide H6) (unhide O7) (unhide N7) b6).mono ?_
  rintro e w7 ⟨rfl, h7, k7⟩
  have H7 : Hid (Wr base w7 p s7.1 s7.2) := by show Wr _ _ _ _ _; rw [← unhide ES7]; exact h7
  have K8 := hide ((unhide K7).trans k7)
  clear h7 k7 c11 c12
  go_wp2
  go_end0
  exact ⟨rfl, unhide H7, unhide K8⟩
end Go.Proofs.YtojmnlbdhpledaaDoor
