/- synodalref2.EncodeEntry: a contract. -/
import Derived.Test.YthjpdglbliigcaaDoorREnt
namespace Go.Proofs.YthjpdglbliigcaaDoor
open Go.RowKit

theorem wrong_ne {kind : Int} {ts n : Nat} {to' : Int} (h : ¬ (0 ≤ kind ∧ kind ≤ 4 ∧ ts ≤ 16 ∧ n ≤ 9 ∧ 0 ≤ to' ∧ to' ≤ 2)) : wrongE kind ts n to' ≠ 0 := by
  by_cases h1 : 0 ≤ kind ∧ kind ≤ 4
  · by_cases h2 : ts ≤ 16
    · by_cases h3 : n ≤ 9
      · rw [wrong_to h1.1 h1.2 h2 h3 (by omega)]; decide
      · rw [wrong_many h1.1 h1.2 h2 (by omega)]; decide
    · rw [wrong_long h1.1 h1.2 (by omega)]; decide
  · rw [wrong_kind (by omega)]; decide

set_option maxRecDepth 20000 in
set_option maxHeartbeats 1000000 in
theorem rencE_any (kind client seq to' : Int) (t : ByteArray) (ht : t.size ≤ maxLen) (ao : Option Addr) (n cap : Nat) (hnm : n ≤ maxLen) (ys : List Int) (hn : ys.length = n) (w : World) (hy : ∀ i, i < ys.length → ∃ a, ao = some a ∧ w.cell? (a.add i) = some (.int .i64 (ys.getD i 0))) :
    Calls Tryd.prog 10 #[.agg #[.int .i64 kind, .int .i64 client, .int .i64 seq, .string t, .slice ao n cap, .int .i64 to']] w fun e w' =>
      ∃ v, e = .returned (.tuple #[v, .int .i64 (((putEntry kind client seq t ys to' ([], 0)).2 : Nat) : Int)]) ∧ Own w.heap.size w' v (told (putEntry kind client seq t ys to' ([], 0))) ∧ Below w.heap.size w w' := by
  obtain ⟨W, hW⟩ : ∃ W, w.alloc (.cells #[.int .i64 kind, .int .i64 client, .int .i64 seq, .string t, .slice ao n cap, .int .i64 to'] 24) = W := ⟨_, rfl⟩
  have bW : Below w.heap.size w W := by rw [← hW]; exact (Below.refl _ w).alloc (Nat.le_refl _) _
  have x0 : W.heap[w.heap.size]? = some (.cells #[.int .i64 kind, .int .i64 client, .int .i64 seq, .string t, .slice ao n cap, .int .i64 to'] 24 (0, 0)) := by rw [← hW]; exact heap_alloc_new _ _
  have RW := hide (fun w1 => rwrong_any kind client seq to' t ht ao n cap hnm w1)
  have HW := hide hW
  have BW := hide bW
  have X0 := hide x0
  have a0 : W.cell? ⟨w.heap.size, 0, none⟩ = some (.int .i64 kind) := (cell_of_block x0).trans rfl
  have a1 : W.cell? ⟨w.heap.size, 1, none⟩ = some (.int .i64 client) := (cell_of_block x0).trans rfl
  have a2 : W.cell? ⟨w.heap.size, 2, none⟩ = some (.int .i64 seq) := (cell_of_block x0).trans rfl
  have a3 : W.cell? ⟨w.heap.size, 3, none⟩ = some (.string t) := (cell_of_block x0).trans rfl
  have a4 : W.cell? ⟨w.heap.size, 4, none⟩ = some (.slice ao n cap) := (cell_of_block x0).trans rfl
  have a5 : W.cell? ⟨w.heap.size, 5, none⟩ = some (.int .i64 to') := (cell_of_block x0).trans rfl
  have two := wrong_put kind client seq t ys to'
  rw [hn] at two
  by_cases hok : 0 ≤ kind ∧ kind ≤ 4 ∧ t.size ≤ 16 ∧ n ≤ 9 ∧ 0 ≤ to' ∧ to' ≤ 2
  · obtain ⟨k1, k2, k3, k4, k5, k6⟩ := hok
    obtain ⟨kk, rfl⟩ : ∃ kk : Nat, kind = (kk : Int) := ⟨kind.toNat, by omega⟩
    obtain ⟨tt, rfl⟩ : ∃ tt : Nat, to' = (tt : Int) := ⟨to'.toNat, by omega⟩
    have hw0 : wrongE (kk : Int) t.size n (tt : Int) = 0 := wrong_ok k1 k2 k3 k4 k5 k6
    have hput : putEntry (kk : Int) client seq t ys (tt : Int) ([], 0) = (En.bytes ⟨(kk : Int), client, seq, t, ys, (tt : Int)⟩, 0) := by
      have hE : En.ok ⟨(kk : Int), client, seq, t, ys, (tt : Int)⟩ := by
        refine ⟨?_, ?_, ?_, ?_⟩
        · unfold refuse; rw [if_neg (by show ¬ ((kk : Int) < (0 : Int) ∨ (4 : Int) < (kk : Int)); omega)]
        · unfold refuse; rw [if_neg (by show ¬ ((t.size : Int) < (0 : Int) ∨ (16 : Int) < (t.size : Int)); omega)]
        · unfold refuse; rw [if_neg (by show ¬ ((ys.length : Int) < (0 : Int) ∨ (9 : Int) < (ys.length : Int)); omega)]
        · unfold refuse; rw [if_neg (by show ¬ ((tt : Int) < (0 : Int) ∨ (2 : Int) < (tt : Int)); omega)]
      exact putE_ok hE []
    rw [hput]
    rw [hw0] at RW
    have RE := hide (fun w1 (b1 : Below w.heap.size w w1) => rentry_any w1.heap.size (.slice none 0 0) [] kk tt (by omega) (by omega) client seq t k3 ao n cap ys hn k4 w1 (Own.nil _ _) (fun i hi => by
      obtain ⟨a, e, c⟩ := hy i hi
      have hlt := blk_lt c
      refine ⟨a, e, by rw [b1.cell hlt]; exact c, ?_⟩
      rw [add_block] at hlt
      exact Nat.lt_of_lt_of_le hlt b1.size) (by simp) (Nat.le_refl _))
    clear two hput hw0 hW bW x0 hy hn ht hnm k1 k2 k3 k4 k5 k6
    go_enter Tryd.func10, Tryd.ntmps10
    go_wp2_with fail
    rw [unhide HW]
    refine ((unhide RW) W).mono ?_
    rintro e w1 ⟨rfl, b1⟩
    have x1 := (b1.block _ (blk_lt' (unhide X0))).trans (unhide X0)
    have c0 : w1.cell? ⟨w.heap.size, 0, none⟩ = some (.int .i64 (kk : Int)) := (cell_of_block x1).trans rfl
    have c1 : w1.cell? ⟨w.heap.size, 1, none⟩ = some (.int .i64 client) := (cell_of_block x1).trans rfl
    have c2 : w1.cell? ⟨w.heap.size, 2, none⟩ = some (.int .i64 seq) := (cell_of_block x1).trans rfl
    have c3 : w1.cell? ⟨w.heap.size, 3, none⟩ = some (.string t) := (cell_of_block x1).trans rfl
    have c4 : w1.cell? ⟨w.heap.size, 4, none⟩ = some (.slice ao n cap) := (cell_of_block x1).trans rfl
    have c5 : w1.cell? ⟨w.heap.size, 5, none⟩ = some (.int .i64 (tt : Int)) := (cell_of_block x1).trans rfl
    have B1 := hide ((unhide BW).trans (b1.mono (unhide BW).size))
    have CE := hide ((unhide RE) w1 (unhide B1))
    clear b1 x1 RE RW a0 a1 a2 a3 a4 a5 HW
    go_wp2_with fail
    refine (unhide CE).mono ?_
    rintro e w2 ⟨v2, rfl, o2, p2⟩
    have O2 := hide (o2.rebase (unhide B1).size)
    have B2 := hide ((unhide B1).trans (p2.below.mono (unhide B1).size))
    clear o2 p2 CE c0 c1 c2 c3 c4 c5
    go_wp2
    go_ret2
    refine ⟨v2, rfl, ?_, unhide B2⟩
    have h2 := unhide O2
    rw [List.nil_append] at h2
    exact h2
  · have hne := wrong_ne hok
    obtain ⟨q, hq⟩ : ∃ q, wrongE kind t.size n to' = q := ⟨_, rfl⟩
    rw [hq] at hne two RW
    have htold : told (putEntry kind client seq t ys to' ([], 0)) = [] := by unfold told; rw [two, if_neg hne]
    rw [htold, two]
    have hqi : ¬ ((q : Int) = 0) := by omega
    have hqb : ((q : Int) != 0) = true := by rw [bne_iff_ne]; exact hqi
    clear two htold hq hW bW x0 hy hn ht hnm hok hne
    go_enter Tryd.func10, Tryd.ntmps10
    go_wp2_with fail
    rw [unhide HW]
    refine ((unhide RW) W).mono ?_
    rintro e w1 ⟨rfl, b1⟩
    have x1 := (b1.block _ (blk_lt' (unhide X0))).trans (unhide X0)
    have c0 : w1.cell? ⟨w.heap.size, 0, none⟩ = some (.int .i64 kind) := (cell_of_block x1).trans rfl
    have c1 : w1.cell? ⟨w.heap.size, 1, none⟩ = some (.int .i64 client) := (cell_of_block x1).trans rfl
    have c2 : w1.cell? ⟨w.heap.size, 2, none⟩ = some (.int .i64 seq) := (cell_of_block x1).trans rfl
    have c3 : w1.cell? ⟨w.heap.size, 3, none⟩ = some (.string t) := (cell_of_block x1).trans rfl
    have c4 : w1.cell? ⟨w.heap.size, 4, none⟩ = some (.slice ao n cap) := (cell_of_block x1).trans rfl
    have c5 : w1.cell? ⟨w.heap.size, 5, none⟩ = some (.int .i64 to') := (cell_of_block x1).trans rfl
    have B1 := hide ((unhide BW).trans (b1.mono (unhide BW).size))
    clear b1 x1 a0 a1 a2 a3 a4 a5 HW
    go_wp2_with fail
    refine ((unhide RW) w1).mono ?_
    rintro e w2 ⟨rfl, b2⟩
    have B2 := hide ((unhide B1).trans (b2.mono (unhide B1).size))
    clear b2 c0 c1 c2 c3 c4 c5
    go_wp2
    go_ret2
    exact ⟨_, rfl, Own.nil _ _, unhide B2⟩
end Go.Proofs.YthjpdglbliigcaaDoor
