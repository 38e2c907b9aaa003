/- wire's writer: ints: a contract. -/
import Derived.Test.YtjcllplgiffmgaaDoorWriter
namespace Go.Proofs.YtjcllplgiffmgaaDoor
open Go.RowKit

def num8 (n : Int) : List Nat := be8 (n % 18446744073709551616).toNat
def nums (ys : List Int) : List Nat := (ys.map num8).flatten
theorem num8_len (n : Int) : (num8 n).length = 8 := rfl
theorem nums_len (ys : List Int) : (nums ys).length = 8 * ys.length := by
  induction ys with
  | nil => rfl
  | cons y ys ih => simp only [nums, List.map_cons, List.flatten_cons, List.length_append, num8_len, List.length_cons] at *; omega
theorem nums_snoc (ys : List Int) (y : Int) : nums (ys ++ [y]) = nums ys ++ num8 y := by simp [nums]

/-- a block that a call which keeps 'Only base ts' leaves as it is. -/
def Stay (base : Nat) (ts : List TypeId) (w : World) (k : Nat) : Prop := k < base ∨ ∃ cur e fr, w.heap[k]? = some (.cells cur e fr) ∧ e ∉ ts
theorem Stay.heap {base : Nat} {ts : List TypeId} {w w' : World} {k : Nat} (h : Stay base ts w k) (ho : Only base ts w w') : w'.heap[k]? = w.heap[k]? := by
  rcases h with h | ⟨cur, e, fr, h, he⟩
  · exact ho.1.block k h
  · rw [ho.block h he, h]
theorem Stay.only {base : Nat} {ts : List TypeId} {w w' : World} {k : Nat} (h : Stay base ts w k) (ho : Only base ts w w') : Stay base ts w' k := by
  have e := h.heap ho
  rcases h with h | ⟨cur, t, fr, h, he⟩
  · exact Or.inl h
  · exact Or.inr ⟨cur, t, fr, by rw [e]; exact h, he⟩
/-- a slice of numbers that stays. -/
def Ints (base : Nat) (ts : List TypeId) (w : World) (ao : Option Addr) (ys : List Int) : Prop :=
  ∀ i, i < ys.length → ∃ a, ao = some a ∧ w.cell? (a.add i) = some (.int .i64 (ys.getD i 0)) ∧ Stay base ts w a.block
theorem Ints.only {base : Nat} {ts : List TypeId} {w w' : World} {ao : Option Addr} {ys : List Int} (h : Ints base ts w ao ys) (ho : Only base ts w w') : Ints base ts w' ao ys := fun i hi => by
  obtain ⟨a, e, hc, hs⟩ := h i hi
  refine ⟨a, e, ?_, hs.only ho⟩
  rw [World.cell?_of_block (w := w) (a := a.add i) (by rw [add_block]; exact hs.heap ho)]; exact hc

set_option maxRecDepth 20000 in
set_option maxHeartbeats 1000000 in
theorem ints_any (base p : Nat) (bs : List Nat) (er : Nat) (ao : Option Addr) (n cap : Nat) (ys : List Int) (hn : ys.length = n) (w : World) (h : Wr base w p bs er) (hy : Ints base [5, 105] w ao ys) (hbase : base ≤ w.heap.size) (hl : bs.length + 8 * n ≤ 1000000000) :
    Calls Tryd.prog 59 #[.pointer (some ⟨p, 0, none⟩), .slice ao n cap] w fun e w' => e = .returned (.tuple #[]) ∧ Wr base w' p (bs ++ nums ys) er ∧ Only base [5, 105] w w' := by
  have HW := hide h
  have HY := hide hy
  have HN := hide hn
  clear h hy hn
  go_enter Tryd.func59, Tryd.ntmps59
  go_wp2_with fail
  go_loopg [8] n (fun g iv wr => ∃ k : Nat, k ≤ n ∧ g = n - k ∧ iv = .int .i64 k ∧ Wr base wr p (bs ++ nums (ys.take k)) er ∧ Only base [5, 105] w wr)
  case atStart => exact ⟨0, Nat.zero_le _, by omega, rfl, by simpa [nums] using unhide HW, Only.refl _ _ _⟩
  case round =>
    obtain ⟨k, hk, hg, rfl, hwr, hon⟩ := hrel
    have HG := hide hg
    have HO := hide hon
    clear hg hon
    by_cases hlt : k < n
    · obtain ⟨a, rfl, hc, _⟩ := ((unhide HY).only (unhide HO)) k (by rw [unhide HN]; exact hlt)
      obtain ⟨v, ev, hp, hbp, ho, herr⟩ := hwr
      have c0 : wr.cell? ⟨p, 0, none⟩ = some v := (cell_of_block hp).trans rfl
      have HP := hide hp
      have HOW := hide ho
      have HE := hide herr
      have hlen : (bs ++ nums (ys.take k)).length ≤ 1000000000 := by rw [List.length_append, nums_len, List.length_take, unhide HN]; omega
      have HS : Hid (ys.take (k + 1) = ys.take k ++ [ys.getD k 0]) := take_succ ys 0 k (by rw [unhide HN]; exact hlt)
      have s1 : base ≤ wr.heap.size := Nat.le_trans hbase (unhide HO).size
      have hu : IntKind.u64.wrap (ys.getD k 0) = (((ys.getD k 0 % 18446744073709551616).toNat : Nat) : Int) := by rw [IntKind.wrap_u64]; omega
      have HQ : Hid (num8 (ys.getD k 0) = be8 (ys.getD k 0 % 18446744073709551616).toNat) := rfl
      have hul : (ys.getD k 0 % 18446744073709551616).toNat < 18446744073709551616 := by omega
      clear hp ho herr
      generalize (ys.getD k 0 % 18446744073709551616).toNat = m at *
      generalize ys.getD k 0 = y at *
      go_wp2_with fail
      refine (put8 base v _ m wr (unhide HOW) hlen s1 hul).mono ?_
      rintro e w2 ⟨v2, rfl, o2, k2⟩
      obtain ⟨ao2, cap2, rfl, _⟩ := o2.slice
      have hp2 := k2.block (unhide HP) (by decide)
      have d0 : w2.cell? ⟨p, 0, none⟩ = some v := (cell_of_block hp2).trans rfl
      have f0 : w2.frozen? ⟨p, 0, none⟩ = false := free_of_block hp2
      have HP2 := hide hp2
      have K2 := hide k2
      have O2 := hide o2
      clear hp2 k2 o2 c0 hc
      go_wp2
      go_roundg (n - (k + 1))
      case measure => have := unhide HG; omega
      case rel =>
        have k3 : ∀ u, Only base [105] w2 (w2.setCell ⟨p, 0, none⟩ u) := fun u => (Only.refl _ _ _).setCell (p := ⟨p, 0, none⟩) hbp u (unhide HP2) (by simp)
        refine ⟨k + 1, by omega, rfl, by go_num, ⟨_, ev, setCell_block (unhide HP2), hbp, ?_, ((unhide HE).only (unhide K2) (by decide)).only (k3 _) (by decide)⟩, (unhide HO).trans (((unhide K2).mono (Nat.le_refl _) (by simp)).trans ((k3 _).mono (Nat.le_refl _) (by simp)))⟩
        have e : bs ++ nums (ys.take (k + 1)) = bs ++ nums (ys.take k) ++ be8 m := by rw [unhide HS, nums_snoc, unhide HQ, List.append_assoc]
        have h := (unhide O2).only (k3 (.slice ao2 (bs ++ nums (ys.take k) ++ be8 m).length cap2)) (by decide)
        simp only [List.length_append, Nat.add_assoc] at h
        rw [e]; exact h
    · have ek : ys.take k = ys := List.take_of_length_le (by rw [unhide HN]; omega)
      rw [ek] at hwr
      have HWR := hide hwr
      clear hwr ek
      go_wp2
      refine bodyPost_end (v := .tuple #[]) (by simp [results, Tryd.results59]) rfl ⟨rfl, unhide HWR, unhide HO⟩
end Go.Proofs.YtjcllplgiffmgaaDoor
