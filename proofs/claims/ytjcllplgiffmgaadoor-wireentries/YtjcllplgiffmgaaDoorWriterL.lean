/- wire's writer: a byte with a rule, a list, a configuration: contracts by what they do to what was laid and to the first flaw. -/
import Derived.Test.YtjcllplgiffmgaaDoorWriterI
namespace Go.Proofs.YtjcllplgiffmgaaDoor
open Go.RowKit

def putRule (q : Nat) (n : Int) (s : List Nat × Nat) : List Nat × Nat := if s.2 ≠ 0 then s else if refuse q n ≠ 0 then (s.1, refuse q n) else (s.1 ++ [n.toNat], 0)
def putList (q : Nat) (ys : List Int) (s : List Nat × Nat) : List Nat × Nat :=
  if s.2 = 0 ∧ refuse q ys.length = 0 then ((putRule q ys.length s).1 ++ nums ys, 0) else putRule q ys.length s
theorem rule_le (q : Nat) : (rule q).2.1 ≤ 64 := by unfold rule; split <;> decide
theorem refuse_range {q : Nat} {n : Int} (h : refuse q n = 0) : 0 ≤ n ∧ n ≤ 64 := by
  have hq : ∀ q, (rule q).2.2 ≠ 0 := by intro q; unfold rule; split <;> decide
  have := rule_le q
  unfold refuse at h
  split at h
  · exact absurd h (hq q)
  · omega
theorem putRule_len (q : Nat) (n : Int) (s : List Nat × Nat) : (putRule q n s).1.length ≤ s.1.length + 1 := by
  unfold putRule; split
  · omega
  · split <;> simp

theorem ruled_any (base p q : Nat) (hq : q < 7) (s : List Nat × Nat) (n : Int) (hl : s.1.length ≤ 1000000000) (w : World) (h : Wr base w p s.1 s.2) (hbase : base ≤ w.heap.size) :
    Calls Tryd.prog 58 #[.pointer (some ⟨p, 0, none⟩), .int .i64 q, .int .i64 n] w fun e w' => e = .returned (.bool (decide (s.2 = 0 ∧ refuse q n = 0))) ∧ Wr base w' p (putRule q n s).1 (putRule q n s).2 ∧ Only base [5, 105] w w' := by
  obtain ⟨bs, er⟩ := s
  by_cases he : er = 0
  · subst he
    by_cases hr : refuse q n = 0
    · have hn := refuse_range hr
      obtain ⟨m, rfl⟩ : ∃ m : Nat, n = (m : Int) := ⟨n.toNat, by omega⟩
      refine (ruled_ok base p q hq bs m (by omega) hl w h hbase hr).mono ?_
      rintro e w' ⟨rfl, h1, h2⟩
      have e1 : putRule q (m : Int) (bs, 0) = (bs ++ [m], 0) := by unfold putRule; rw [if_neg (by simp), if_neg (by simpa using hr)]; simp
      rw [e1]
      exact ⟨by simp [hr], h1, h2⟩
    · refine (ruled_bad base p q hq bs n w h hbase hr).mono ?_
      rintro e w' ⟨rfl, h1, h2⟩
      have e1 : putRule q n (bs, 0) = (bs, refuse q n) := by unfold putRule; rw [if_neg (by simp), if_pos hr]
      rw [e1]
      exact ⟨by simp [hr], h1, h2⟩
  · refine (ruled_err base p q bs er n w h he).mono ?_
    rintro e w' ⟨rfl, rfl⟩
    have e1 : putRule q n (bs, er) = (bs, er) := by unfold putRule; rw [if_pos he]
    rw [e1]
    exact ⟨by simp [he], h, Only.refl _ _ _⟩

set_option maxHeartbeats 1000000 in
theorem list_any (base p q : Nat) (hq : q < 7) (s : List Nat × Nat) (ao : Option Addr) (n cap : Nat) (ys : List Int) (hn : ys.length = n) (hl : s.1.length ≤ 900000000) (w : World) (h : Wr base w p s.1 s.2) (hy : Ints base [5, 105] w ao ys) (hbase : base ≤ w.heap.size) :
    Calls Tryd.prog 61 #[.pointer (some ⟨p, 0, none⟩), .int .i64 q, .slice ao n cap] w fun e w' => e = .returned (.tuple #[]) ∧ Wr base w' p (putList q ys s).1 (putList q ys s).2 ∧ Only base [5, 105] w w' := by
  have HW := hide h
  have HY := hide hy
  have HN := hide hn
  clear h hy
  by_cases hc : s.2 = 0 ∧ refuse q ys.length = 0
  · have e1 : putList q ys s = ((putRule q ys.length s).1 ++ nums ys, 0) := by unfold putList; rw [if_pos hc]
    have e2 : (putRule q ys.length s).2 = 0 := by unfold putRule; rw [if_neg (by simp [hc.1]), if_neg (by simp [hc.2])]
    have hr := (refuse_range hc.2).2
    have hd : decide (s.2 = 0 ∧ refuse q ys.length = 0) = true := decide_eq_true hc
    have hpl := putRule_len q ys.length s
    rw [e1]
    subst hn
    have HD := hide hd
    have HE2 := hide e2
    clear e1 e2 hc hd
    go_enter Tryd.func61, Tryd.ntmps61
    go_wp2_with fail
    refine (ruled_any base p q hq s ys.length (by omega) w (unhide HW) hbase).mono ?_
    rw [unhide HD]
    rintro e w1 ⟨rfl, h1, k1⟩
    rw [unhide HE2] at h1
    have H1 := hide h1
    have K1 := hide k1
    clear h1 k1
    go_wp2_with fail
    refine (ints_any base p _ 0 ao ys.length cap ys rfl w1 (unhide H1) ((unhide HY).only (unhide K1)) (Nat.le_trans hbase (unhide K1).size) (by omega)).mono ?_
    rintro e w2 ⟨rfl, h2, k2⟩
    have H2 := hide h2
    have K2 := hide k2
    clear h2 k2
    go_wp2
    go_end0
    exact ⟨rfl, unhide H2, (unhide K1).trans (unhide K2)⟩
  · have e1 : putList q ys s = putRule q ys.length s := by unfold putList; rw [if_neg hc]
    have hd : decide (s.2 = 0 ∧ refuse q ys.length = 0) = false := decide_eq_false hc
    rw [e1]
    subst hn
    have HD := hide hd
    clear e1 hc hd
    go_enter Tryd.func61, Tryd.ntmps61
    go_wp2_with fail
    refine (ruled_any base p q hq s ys.length (by omega) w (unhide HW) hbase).mono ?_
    rw [unhide HD]
    rintro e w1 ⟨rfl, h1, k1⟩
    have H1 := hide h1
    have K1 := hide k1
    clear h1 k1
    go_wp2
    go_end0
    exact ⟨rfl, unhide H1, unhide K1⟩
end Go.Proofs.YtjcllplgiffmgaaDoor
