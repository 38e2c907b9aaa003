/- wire's writer: the rule of a byte, and a byte that is laid or refused: contracts. wire's writer: ints: a contract. wire's writer: a byte with a rule, a list, a configuration: contracts by what they do to what was laid and to the first flaw. -/
import Derived.Test.YtjplhiflemmkfaaGreatDoorFrameAt
import Derived.Test.YtjplhiflemmkfaaGreatDoorCrc
namespace Go.Proofs.YtjplhiflemmkfaaGreatDoor
open Go.RowKit

/-- what may stand in a byte: from, to, and the number by which another is refused. -/
def rule : Nat → Nat × Nat × Nat
  | 0 => (0, 4, 3)
  | 1 => (0, 2, 3)
  | 2 => (1, 15, 3)
  | 3 => (0, 1, 12)
  | 4 => (0, 16, 5)
  | 5 => (0, 9, 4)
  | _ => (0, 64, 4)
def refuse (p : Nat) (n : Int) : Nat := if n < (rule p).1 ∨ ((rule p).2.1 : Int) < n then (rule p).2.2 else 0

set_option maxHeartbeats 1000000 in
theorem refusal_any (p : Nat) (hp : p < 7) (n : Int) (w : World) :
    Calls Tryz.prog 312 #[.int .i64 p, .int .i64 n] w fun e w' => e = .returned (.int .i64 ((refuse p n : Nat) : Int)) ∧ w' = w := by
  have hc : p = 0 ∨ p = 1 ∨ p = 2 ∨ p = 3 ∨ p = 4 ∨ p = 5 ∨ p = 6 := by omega
  rcases hc with rfl | rfl | rfl | rfl | rfl | rfl | rfl
  all_goals
    clear hp
    unfold refuse rule
    go_enter Tryz.func312, Tryz.ntmps312
    go_wp2
    all_goals
      go_ret
      refine ⟨ret_int ?_, rfl⟩
      first
        | rfl
        | omega
        | (rw [if_pos (by omega)]; rfl)
        | (rw [if_neg (by omega)]; rfl)

/-- the error of a writer or a reader, with its block. -/
def ErrB (w : World) (ev : Value) (n : Nat) : Prop :=
  (n = 0 ∧ ev = .nilIface) ∨ ∃ (b : Nat) (x : Value), n ≠ 0 ∧ ev = .iface 313 (.pointer (some ⟨b, 0, none⟩)) ∧ w.heap[b]? = some (.cells #[x, .iface 32 (.int .i64 (n : Int))] 315 (0, 0))
theorem ErrB.err {w : World} {ev : Value} {n : Nat} (h : ErrB w ev n) : Err w ev n := by
  rcases h with h | ⟨b, x, h1, h2, h3⟩
  · exact Or.inl h
  · exact Or.inr ⟨b, h1, h2, by simp only [World.cell?, h3]; rfl⟩
theorem ErrB.only {base : Nat} {ts : List TypeId} {w w' : World} {ev : Value} {n : Nat} (h : ErrB w ev n) (ho : Only base ts w w') (ht : 315 ∉ ts) : ErrB w' ev n := by
  rcases h with h | ⟨b, x, h1, h2, h3⟩
  · exact Or.inl h
  · exact Or.inr ⟨b, x, h1, h2, ho.block h3 ht⟩
theorem ErrB.none {w : World} {ev : Value} (h : ErrB w ev 0) : ev = .nilIface := by
  rcases h with ⟨_, h⟩ | ⟨_, _, h0, _⟩
  · exact h
  · exact absurd rfl h0
/-- a writer: what it has laid, and its first flaw. -/
def Wr (base : Nat) (w : World) (p : Nat) (bs : List Nat) (er : Nat) : Prop :=
  ∃ v ev, w.heap[p]? = some (.cells #[v, ev] 336 (0, 0)) ∧ base ≤ p ∧ Own base w v bs ∧ ErrB w ev er
theorem setCell_block {w : World} {p i : Nat} {u : Value} {cs : Array Value} {t : TypeId} {fr : Nat × Nat} (h : w.heap[p]? = some (.cells cs t fr)) :
    (w.setCell ⟨p, i, none⟩ u).heap[p]? = some (.cells (cs.setIfInBounds i u) t fr) := by
  simp [World.setCell, Array.getElem?_modify, h]
theorem cell_of_block {w : World} {p i : Nat} {cs : Array Value} {t : TypeId} {fr : Nat × Nat} (h : w.heap[p]? = some (.cells cs t fr)) : w.cell? ⟨p, i, none⟩ = cs[i]? := by
  simp [World.cell?, h]
theorem free_of_block {w : World} {p i : Nat} {cs : Array Value} {t : TypeId} (h : w.heap[p]? = some (.cells cs t (0, 0))) : w.frozen? ⟨p, i, none⟩ = false := by
  simp [World.frozen?, h]

theorem ruled_err (base p q : Nat) (bs : List Nat) (er : Nat) (n : Int) (w : World) (h : Wr base w p bs er) (he : er ≠ 0) :
    Calls Tryz.prog 282 #[.pointer (some ⟨p, 0, none⟩), .int .i64 q, .int .i64 n] w fun e w' => e = .returned (.bool false) ∧ w' = w := by
  obtain ⟨v, ev, hp, hbp, ho, herr⟩ := h
  rcases herr with ⟨h0, _⟩ | ⟨b, x, _, rfl, _⟩
  · exact absurd h0 he
  have c1 : w.cell? ⟨p, 1, none⟩ = some (.iface 313 (.pointer (some ⟨b, 0, none⟩))) := (cell_of_block hp).trans rfl
  clear hp ho
  go_enter Tryz.func282, Tryz.ntmps282
  go_wp2
  go_ret
  exact ⟨rfl, rfl⟩

set_option maxHeartbeats 1000000 in
theorem ruled_bad (base p q : Nat) (hq : q < 7) (bs : List Nat) (n : Int) (w : World) (h : Wr base w p bs 0) (hbase : base ≤ w.heap.size) (hr : refuse q n ≠ 0) :
    Calls Tryz.prog 282 #[.pointer (some ⟨p, 0, none⟩), .int .i64 q, .int .i64 n] w fun e w' => e = .returned (.bool false) ∧ Wr base w' p bs (refuse q n) ∧ Only base [5, 336] w w' := by
  obtain ⟨v, ev, hp, hbp, ho, herr⟩ := h
  obtain rfl : ev = .nilIface := herr.none
  obtain ⟨aob, capb, rfl, _⟩ := ho.slice
  have c1 : w.cell? ⟨p, 1, none⟩ = some .nilIface := (cell_of_block hp).trans rfl
  have c0 : w.cell? ⟨p, 0, none⟩ = some (.slice aob bs.length capb) := (cell_of_block hp).trans rfl
  have hplt := blk_lt c0
  simp only at hplt
  have f1 : w.frozen? ⟨p, 1, none⟩ = false := free_of_block hp
  have hr' : (((refuse q n : Nat) : Int) != 0) = true := by rw [bne_iff_ne]; omega
  have HP := hide hp
  have HO := hide ho
  have HR := hide hr
  clear hp ho hr herr
  go_enter Tryz.func282, Tryz.ntmps282
  go_wp2_with (go_at_call 312; refine (refusal_any q hq n _).mono ?_; rintro e w' ⟨rfl, rfl⟩)
  go_ret
  have k1 : ∀ u, Only base [336] w' (w'.setCell ⟨p, 1, none⟩ u) := fun u => (Only.refl _ _ _).setCell (p := ⟨p, 1, none⟩) hbp u (unhide HP) (by simp)
  have es : ∀ u, (w'.setCell ⟨p, 1, none⟩ u).heap.size = w'.heap.size := fun u => by simp [World.setCell]
  have k2 : ∀ u o, Only base [336] w' ((w'.setCell ⟨p, 1, none⟩ u).alloc o) := fun u o => (k1 u).alloc (by rw [es]; exact hbase) o
  have b1 : ∀ u o, ((w'.setCell ⟨p, 1, none⟩ u).alloc o).heap[p]? = some (.cells #[.slice aob bs.length capb, u] 336 (0, 0)) := fun u o => (Below.heap_alloc _ o p (by rw [es]; exact hplt)).trans (setCell_block (unhide HP))
  have b2 : ∀ u o, ((w'.setCell ⟨p, 1, none⟩ u).alloc o).heap[w'.heap.size]? = some o := fun u o => by have h := heap_alloc_new (w'.setCell ⟨p, 1, none⟩ u) o; rw [es] at h; exact h
  exact ⟨rfl, ⟨_, _, b1 _ _, hbp, (unhide HO).only (k2 _ _) (by decide), Or.inr ⟨w'.heap.size, _, unhide HR, rfl, b2 _ _⟩⟩, (k2 _ _).mono (Nat.le_refl _) (by simp)⟩

set_option maxRecDepth 20000 in
set_option maxHeartbeats 1000000 in
theorem ruled_ok (base p q : Nat) (hq : q < 7) (bs : List Nat) (n : Nat) (hn : n < 256) (hl : bs.length ≤ 1000000000) (w : World) (h : Wr base w p bs 0) (hbase : base ≤ w.heap.size) (hr : refuse q n = 0) :
    Calls Tryz.prog 282 #[.pointer (some ⟨p, 0, none⟩), .int .i64 q, .int .i64 n] w fun e w' => e = .returned (.bool true) ∧ Wr base w' p (bs ++ [n]) 0 ∧ Only base [5, 336] w w' := by
  obtain ⟨i0, hi, hz0, hz1, hz2⟩ := info_parts Tryz.info5
  obtain ⟨v, ev, hp, hbp, ho, herr⟩ := h
  obtain rfl : ev = .nilIface := herr.none
  have c1 : w.cell? ⟨p, 1, none⟩ = some .nilIface := (cell_of_block hp).trans rfl
  have c0 : w.cell? ⟨p, 0, none⟩ = some v := (cell_of_block hp).trans rfl
  have hplt := blk_lt c0
  simp only at hplt
  have hown := ho.1
  have HP := hide hp
  have HO := hide ho
  clear hp ho herr
  go_enter Tryz.func282, Tryz.ntmps282
  go_wp2_with fail
  refine (refusal_any q hq n w).mono ?_
  rw [hr]
  rintro e w' ⟨rfl, rfl⟩
  go_wp2_with (at_builtin; refine wpList_append_own _ rfl (.tmp 35) (.tmp 38) 55 rfl base 5 i0 (.int .u8 0) 1 1 Tryz.underlying55 hi hz0 hz1 hz2 rfl (by decide) _ _ _ rfl (hown.alloc _) ⟨w'.heap.size, 0, none⟩ 1 1 _ rfl rfl news_at (one1 _) (by unfold maxLen; omega) (by omega) (by simp; omega) ?_)
  intro v2 w2 own2 g2 _
  have k2 : Only base [5] w' w2 := ((Only.refl base [5] w').alloc hbase _).own (hown.alloc _) g2 (by simp; omega) (Nat.le_refl _) (by simp)
  have hp2 := k2.block (unhide HP) (by decide)
  obtain ⟨gb, cap2, rfl⟩ : ∃ gb cap2, v2 = .slice (some ⟨gb, 0, none⟩) (bs.length + 1) cap2 := by
    rcases own2.2 with ⟨_, h0⟩ | ⟨gb, cap2, cur, rfl, _⟩
    · omega
    · exact ⟨gb, cap2, rfl⟩
  have d0 : w2.cell? ⟨p, 0, none⟩ = some v := (cell_of_block hp2).trans rfl
  have f0 : w2.frozen? ⟨p, 0, none⟩ = false := free_of_block hp2
  have HP2 := hide hp2
  have K2 := hide k2
  have O2 := hide own2
  clear hp2 k2 own2 g2 hown c0 c1
  go_wp2
  go_ret
  have k3 : ∀ u, Only base [336] w2 (w2.setCell ⟨p, 0, none⟩ u) := fun u => (Only.refl _ _ _).setCell (p := ⟨p, 0, none⟩) hbp u (unhide HP2) (by simp)
  have o2 : Own base w2 (.slice (some ⟨gb, 0, none⟩) (bs.length + 1) cap2) (bs ++ [n]) := by
    refine ⟨?_, ?_⟩
    · have h := unhide O2
      have e2 : (bs ++ [n]).length = bs.length + 1 := by simp
      have e : u8s (bs ++ [n]) = u8s bs ++ [Value.int .u8 (n : Int)] := by simp [u8s]
      rw [e2, e]; exact h
    · intro x hx
      rcases List.mem_append.1 hx with h | h
      · exact (unhide HO).2 x h
      · simp at h; omega
  exact ⟨rfl, ⟨_, .nilIface, setCell_block (unhide HP2), hbp, o2.only (k3 _) (by decide), Or.inl ⟨rfl, rfl⟩⟩, ((unhide K2).mono (Nat.le_refl _) (by simp)).trans ((k3 _).mono (Nat.le_refl _) (by simp))⟩
end Go.Proofs.YtjplhiflemmkfaaGreatDoor
namespace Go.Proofs.YtjplhiflemmkfaaGreatDoor
open Go.RowKit

def num8 (n : Int) : List Nat := be8 (n % 18446744073709551616).toNat
def nums (ys : List Int) : List Nat := (ys.map num8).flatten
theorem num8_len (n : Int) : (num8 n).length = 8 := rfl
theorem nums_len (ys : List Int) : (nums ys).length = 8 * ys.length := by
  induction ys with
  | nil => rfl
  | cons y ys ih => simp only [nums, List.map_cons, List.flatten_cons, List.length_append, num8_len, List.length_cons] at *; omega
theorem nums_snoc (ys : List Int) (y : Int) : nums (ys ++ [y]) = nums ys ++ num8 y := by simp [nums]

/-- a block that a call which keeps 'Only base ts' leaves as it is. -/
def Stay (base : Nat) (ts : List TypeId) (w : World) (k : Nat) : Prop := k < base ∨ ∃ cur e fr, w.heap[k]? = some (.cells cur e fr) ∧ e ∉ ts
theorem Stay.heap {base : Nat} {ts : List TypeId} {w w' : World} {k : Nat} (h : Stay base ts w k) (ho : Only base ts w w') : w'.heap[k]? = w.heap[k]? := by
  rcases h with h | ⟨cur, e, fr, h, he⟩
  · exact ho.1.block k h
  · rw [ho.block h he, h]
theorem Stay.only {base : Nat} {ts : List TypeId} {w w' : World} {k : Nat} (h : Stay base ts w k) (ho : Only base ts w w') : Stay base ts w' k := by
  have e := h.heap ho
  rcases h with h | ⟨cur, t, fr, h, he⟩
  · exact Or.inl h
  · exact Or.inr ⟨cur, t, fr, by rw [e]; exact h, he⟩
/-- a slice of numbers that stays. -/
def Ints (base : Nat) (ts : List TypeId) (w : World) (ao : Option Addr) (ys : List Int) : Prop :=
  ∀ i, i < ys.length → ∃ a, ao = some a ∧ w.cell? (a.add i) = some (.int .i64 (ys.getD i 0)) ∧ Stay base ts w a.block
theorem Ints.only {base : Nat} {ts : List TypeId} {w w' : World} {ao : Option Addr} {ys : List Int} (h : Ints base ts w ao ys) (ho : Only base ts w w') : Ints base ts w' ao ys := fun i hi => by
  obtain ⟨a, e, hc, hs⟩ := h i hi
  refine ⟨a, e, ?_, hs.only ho⟩
  rw [World.cell?_of_block (w := w) (a := a.add i) (by rw [add_block]; exact hs.heap ho)]; exact hc

set_option maxRecDepth 20000 in
set_option maxHeartbeats 1000000 in
theorem ints_any (base p : Nat) (bs : List Nat) (er : Nat) (ao : Option Addr) (n cap : Nat) (ys : List Int) (hn : ys.length = n) (w : World) (h : Wr base w p bs er) (hy : Ints base [5, 336] w ao ys) (hbase : base ≤ w.heap.size) (hl : bs.length + 8 * n ≤ 1000000000) :
    Calls Tryz.prog 281 #[.pointer (some ⟨p, 0, none⟩), .slice ao n cap] w fun e w' => e = .returned (.tuple #[]) ∧ Wr base w' p (bs ++ nums ys) er ∧ Only base [5, 336] w w' := by
  have HW := hide h
  have HY := hide hy
  have HN := hide hn
  clear h hy hn
  go_enter Tryz.func281, Tryz.ntmps281
  go_wp2_with fail
  go_loopg [8] n (fun g iv wr => ∃ k : Nat, k ≤ n ∧ g = n - k ∧ iv = .int .i64 k ∧ Wr base wr p (bs ++ nums (ys.take k)) er ∧ Only base [5, 336] w wr)
  case atStart => exact ⟨0, Nat.zero_le _, by omega, rfl, by simpa [nums] using unhide HW, Only.refl _ _ _⟩
  case round =>
    obtain ⟨k, hk, hg, rfl, hwr, hon⟩ := hrel
    have HG := hide hg
    have HO := hide hon
    clear hg hon
    by_cases hlt : k < n
    · obtain ⟨a, rfl, hc, _⟩ := ((unhide HY).only (unhide HO)) k (by rw [unhide HN]; exact hlt)
      obtain ⟨v, ev, hp, hbp, ho, herr⟩ := hwr
      have c0 : wr.cell? ⟨p, 0, none⟩ = some v := (cell_of_block hp).trans rfl
      have HP := hide hp
      have HOW := hide ho
      have HE := hide herr
      have hlen : (bs ++ nums (ys.take k)).length ≤ 1000000000 := by rw [List.length_append, nums_len, List.length_take, unhide HN]; omega
      have HS : Hid (ys.take (k + 1) = ys.take k ++ [ys.getD k 0]) := take_succ ys 0 k (by rw [unhide HN]; exact hlt)
      have s1 : base ≤ wr.heap.size := Nat.le_trans hbase (unhide HO).size
      have hu : IntKind.u64.wrap (ys.getD k 0) = (((ys.getD k 0 % 18446744073709551616).toNat : Nat) : Int) := by rw [IntKind.wrap_u64]; omega
      have HQ : Hid (num8 (ys.getD k 0) = be8 (ys.getD k 0 % 18446744073709551616).toNat) := rfl
      have hul : (ys.getD k 0 % 18446744073709551616).toNat < 18446744073709551616 := by omega
      clear hp ho herr
      generalize (ys.getD k 0 % 18446744073709551616).toNat = m at *
      generalize ys.getD k 0 = y at *
      go_wp2_with fail
      refine (put8 base v _ m wr (unhide HOW) hlen s1 hul).mono ?_
      rintro e w2 ⟨v2, rfl, o2, k2⟩
      obtain ⟨ao2, cap2, rfl, _⟩ := o2.slice
      have hp2 := k2.block (unhide HP) (by decide)
      have d0 : w2.cell? ⟨p, 0, none⟩ = some v := (cell_of_block hp2).trans rfl
      have f0 : w2.frozen? ⟨p, 0, none⟩ = false := free_of_block hp2
      have HP2 := hide hp2
      have K2 := hide k2
      have O2 := hide o2
      clear hp2 k2 o2 c0 hc
      go_wp2
      go_roundg (n - (k + 1))
      case measure => have := unhide HG; omega
      case rel =>
        have k3 : ∀ u, Only base [336] w2 (w2.setCell ⟨p, 0, none⟩ u) := fun u => (Only.refl _ _ _).setCell (p := ⟨p, 0, none⟩) hbp u (unhide HP2) (by simp)
        refine ⟨k + 1, by omega, rfl, by go_num, ⟨_, ev, setCell_block (unhide HP2), hbp, ?_, ((unhide HE).only (unhide K2) (by decide)).only (k3 _) (by decide)⟩, (unhide HO).trans (((unhide K2).mono (Nat.le_refl _) (by simp)).trans ((k3 _).mono (Nat.le_refl _) (by simp)))⟩
        have e : bs ++ nums (ys.take (k + 1)) = bs ++ nums (ys.take k) ++ be8 m := by rw [unhide HS, nums_snoc, unhide HQ, List.append_assoc]
        have h := (unhide O2).only (k3 (.slice ao2 (bs ++ nums (ys.take k) ++ be8 m).length cap2)) (by decide)
        simp only [List.length_append, Nat.add_assoc] at h
        rw [e]; exact h
    · have ek : ys.take k = ys := List.take_of_length_le (by rw [unhide HN]; omega)
      rw [ek] at hwr
      have HWR := hide hwr
      clear hwr ek
      go_wp2
      refine bodyPost_end (v := .tuple #[]) (by simp [results, Tryz.results281]) rfl ⟨rfl, unhide HWR, unhide HO⟩
end Go.Proofs.YtjplhiflemmkfaaGreatDoor
namespace Go.Proofs.YtjplhiflemmkfaaGreatDoor
open Go.RowKit

def putRule (q : Nat) (n : Int) (s : List Nat × Nat) : List Nat × Nat := if s.2 ≠ 0 then s else if refuse q n ≠ 0 then (s.1, refuse q n) else (s.1 ++ [n.toNat], 0)
def putList (q : Nat) (ys : List Int) (s : List Nat × Nat) : List Nat × Nat :=
  if s.2 = 0 ∧ refuse q ys.length = 0 then ((putRule q ys.length s).1 ++ nums ys, 0) else putRule q ys.length s
theorem rule_le (q : Nat) : (rule q).2.1 ≤ 64 := by unfold rule; split <;> decide
theorem refuse_range {q : Nat} {n : Int} (h : refuse q n = 0) : 0 ≤ n ∧ n ≤ 64 := by
  have hq : ∀ q, (rule q).2.2 ≠ 0 := by intro q; unfold rule; split <;> decide
  have := rule_le q
  unfold refuse at h
  split at h
  · exact absurd h (hq q)
  · omega
theorem putRule_len (q : Nat) (n : Int) (s : List Nat × Nat) : (putRule q n s).1.length ≤ s.1.length + 1 := by
  unfold putRule; split
  · omega
  · split <;> simp

theorem ruled_any (base p q : Nat) (hq : q < 7) (s : List Nat × Nat) (n : Int) (hl : s.1.length ≤ 1000000000) (w : World) (h : Wr base w p s.1 s.2) (hbase : base ≤ w.heap.size) :
    Calls Tryz.prog 282 #[.pointer (some ⟨p, 0, none⟩), .int .i64 q, .int .i64 n] w fun e w' => e = .returned (.bool (decide (s.2 = 0 ∧ refuse q n = 0))) ∧ Wr base w' p (putRule q n s).1 (putRule q n s).2 ∧ Only base [5, 336] w w' := by
  obtain ⟨bs, er⟩ := s
  by_cases he : er = 0
  · subst he
    by_cases hr : refuse q n = 0
    · have hn := refuse_range hr
      obtain ⟨m, rfl⟩ : ∃ m : Nat, n = (m : Int) := ⟨n.toNat, by omega⟩
      refine (ruled_ok base p q hq bs m (by omega) hl w h hbase hr).mono ?_
      rintro e w' ⟨rfl, h1, h2⟩
      have e1 : putRule q (m : Int) (bs, 0) = (bs ++ [m], 0) := by unfold putRule; rw [if_neg (by simp), if_neg (by simpa using hr)]; simp
      rw [e1]
      exact ⟨by simp [hr], h1, h2⟩
    · refine (ruled_bad base p q hq bs n w h hbase hr).mono ?_
      rintro e w' ⟨rfl, h1, h2⟩
      have e1 : putRule q n (bs, 0) = (bs, refuse q n) := by unfold putRule; rw [if_neg (by simp), if_pos hr]
      rw [e1]
      exact ⟨by simp [hr], h1, h2⟩
  · refine (ruled_err base p q bs er n w h he).mono ?_
    rintro e w' ⟨rfl, rfl⟩
    have e1 : putRule q n (bs, er) = (bs, er) := by unfold putRule; rw [if_pos he]
    rw [e1]
    exact ⟨by simp [he], h, Only.refl _ _ _⟩

set_option maxHeartbeats 1000000 in
theorem list_any (base p q : Nat) (hq : q < 7) (s : List Nat × Nat) (ao : Option Addr) (n cap : Nat) (ys : List Int) (hn : ys.length = n) (hl : s.1.length ≤ 900000000) (w : World) (h : Wr base w p s.1 s.2) (hy : Ints base [5, 336] w ao ys) (hbase : base ≤ w.heap.size) :
    Calls Tryz.prog 284 #[.pointer (some ⟨p, 0, none⟩), .int .i64 q, .slice ao n cap] w fun e w' => e = .returned (.tuple #[]) ∧ Wr base w' p (putList q ys s).1 (putList q ys s).2 ∧ Only base [5, 336] w w' := by
  have HW := hide h
  have HY := hide hy
  have HN := hide hn
  clear h hy
  by_cases hc : s.2 = 0 ∧ refuse q ys.length = 0
  · have e1 : putList q ys s = ((putRule q ys.length s).1 ++ nums ys, 0) := by unfold putList; rw [if_pos hc]
    have e2 : (putRule q ys.length s).2 = 0 := by unfold putRule; rw [if_neg (by simp [hc.1]), if_neg (by simp [hc.2])]
    have hr := (refuse_range hc.2).2
    have hd : decide (s.2 = 0 ∧ refuse q ys.length = 0) = true := decide_eq_true hc
    have hpl := putRule_len q ys.length s
    rw [e1]
    subst hn
    have HD := hide hd
    have HE2 := hide e2
    clear e1 e2 hc hd
    go_enter Tryz.func284, Tryz.ntmps284
    go_wp2_with fail
    refine (ruled_any base p q hq s ys.length (by omega) w (unhide HW) hbase).mono ?_
    rw [unhide HD]
    rintro e w1 ⟨rfl, h1, k1⟩
    rw [unhide HE2] at h1
    have H1 := hide h1
    have K1 := hide k1
    clear h1 k1
    go_wp2_with fail
    refine (ints_any base p _ 0 ao ys.length cap ys rfl w1 (unhide H1) ((unhide HY).only (unhide K1)) (Nat.le_trans hbase (unhide K1).size) (by omega)).mono ?_
    rintro e w2 ⟨rfl, h2, k2⟩
    have H2 := hide h2
    have K2 := hide k2
    clear h2 k2
    go_wp2
    go_end0
    exact ⟨rfl, unhide H2, (unhide K1).trans (unhide K2)⟩
  · have e1 : putList q ys s = putRule q ys.length s := by unfold putList; rw [if_neg hc]
    have hd : decide (s.2 = 0 ∧ refuse q ys.length = 0) = false := decide_eq_false hc
    rw [e1]
    subst hn
    have HD := hide hd
    clear e1 hc hd
    go_enter Tryz.func284, Tryz.ntmps284
    go_wp2_with fail
    refine (ruled_any base p q hq s ys.length (by omega) w (unhide HW) hbase).mono ?_
    rw [unhide HD]
    rintro e w1 ⟨rfl, h1, k1⟩
    have H1 := hide h1
    have K1 := hide k1
    clear h1 k1
    go_wp2
    go_end0
    exact ⟨rfl, unhide H1, unhide K1⟩
end Go.Proofs.YtjplhiflemmkfaaGreatDoor
