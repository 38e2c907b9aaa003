/- synodalref2.EncodeConfig: a contract. -/
import Derived.Test.YtgllokinadjiaaaGreatDoorWwREnc
namespace Go.Proofs.YtgllokinadjiaaaGreatDoor.Ww
open Go.RowKit

theorem conf_many {xs ys : List Int} (h : 9 < xs.length ∨ 9 < ys.length) : (putConfig xs ys ([], 0)).2 = 4 := by
  have r : ∀ n : Nat, 9 < n → refuse 5 (n : Int) = 4 := fun n hn => by unfold refuse; rw [if_pos (by show ((n : Int) < (0 : Int) ∨ (9 : Int) < (n : Int)); omega)]; rfl
  have r0 : ∀ n : Nat, n ≤ 9 → refuse 5 (n : Int) = 0 := fun n hn => by unfold refuse; rw [if_neg (by show ¬ ((n : Int) < (0 : Int) ∨ (9 : Int) < (n : Int)); omega)]
  unfold putConfig
  rw [putList_err, putList_err]
  by_cases h1 : 9 < xs.length
  · rw [r _ h1]; rfl
  · rw [r0 _ (by omega), r ys.length (by omega)]; rfl

set_option maxRecDepth 20000 in
set_option maxHeartbeats 1000000 in
theorem rencC_any (aoo aon : Option Addr) (no nn co cn : Nat) (hom : no ≤ maxLen) (hnm : nn ≤ maxLen) (xs ys : List Int) (hno : xs.length = no) (hnn : ys.length = nn) (w : World)
    (hx : ∀ i, i < xs.length → ∃ a, aoo = some a ∧ w.cell? (a.add i) = some (.int .i64 (xs.getD i 0))) (hy : ∀ i, i < ys.length → ∃ a, aon = some a ∧ w.cell? (a.add i) = some (.int .i64 (ys.getD i 0))) :
    Calls Tryz.prog 40 #[.agg #[.slice aoo no co, .slice aon nn cn]] w fun e w' =>
      ∃ v, e = .returned (.tuple #[v, .int .i64 (((putConfig xs ys ([], 0)).2 : Nat) : Int)]) ∧ Own w.heap.size w' v (told (putConfig xs ys ([], 0))) ∧ Below w.heap.size w w' := by
  have hom' : no ≤ 9223372036854775807 := hom
  have hnm' : nn ≤ 9223372036854775807 := hnm
  obtain ⟨W, hW⟩ : ∃ W, w.alloc (.cells #[.slice aoo no co, .slice aon nn cn] 24) = W := ⟨_, rfl⟩
  have bW : Below w.heap.size w W := by rw [← hW]; exact (Below.refl _ w).alloc (Nat.le_refl _) _
  have x0 : W.heap[w.heap.size]? = some (.cells #[.slice aoo no co, .slice aon nn cn] 24 (0, 0)) := by rw [← hW]; exact heap_alloc_new _ _
  have a0 : W.cell? ⟨w.heap.size, 0, none⟩ = some (.slice aoo no co) := (cell_of_block x0).trans rfl
  have a1 : W.cell? ⟨w.heap.size, 1, none⟩ = some (.slice aon nn cn) := (cell_of_block x0).trans rfl
  have HW := hide hW
  have BW := hide bW
  have X0 := hide x0
  by_cases hok : no ≤ 9 ∧ nn ≤ 9
  · obtain ⟨k1, k2⟩ := hok
    have hput : putConfig xs ys ([], 0) = ([] ++ confBytes xs ys, 0) := putConfig_ok (by unfold refuse; rw [if_neg (by show ¬ ((xs.length : Int) < (0 : Int) ∨ (9 : Int) < (xs.length : Int)); omega)]) (by unfold refuse; rw [if_neg (by show ¬ ((ys.length : Int) < (0 : Int) ∨ (9 : Int) < (ys.length : Int)); omega)]) []
    rw [hput]
    have HXW := hide (fun (x : World) (hb : Below w.heap.size w x) (v : Value) (hv : ∀ k, k < w.heap.size → v.ownBlock ≠ some k) (i : Nat) (hi : i < xs.length) => show ∃ a, aoo = some a ∧ x.cell? (a.add i) = some (.int .i64 (xs.getD i 0)) ∧ v.ownBlock ≠ some a.block from by
      obtain ⟨a, e, c⟩ := hx i hi
      have hlt := blk_lt c
      refine ⟨a, e, by rw [hb.cell hlt]; exact c, hv _ ?_⟩
      rw [add_block] at hlt; exact hlt)
    have HYW := hide (fun (x : World) (hb : Below w.heap.size w x) (v : Value) (hv : ∀ k, k < w.heap.size → v.ownBlock ≠ some k) (i : Nat) (hi : i < ys.length) => show ∃ a, aon = some a ∧ x.cell? (a.add i) = some (.int .i64 (ys.getD i 0)) ∧ v.ownBlock ≠ some a.block from by
      obtain ⟨a, e, c⟩ := hy i hi
      have hlt := blk_lt c
      refine ⟨a, e, by rw [hb.cell hlt]; exact c, hv _ ?_⟩
      rw [add_block] at hlt; exact hlt)
    have SX := hide (fun (x : World) (h : x.heap[w.heap.size]? = some (.cells #[.slice aoo no co, .slice aon nn cn] 24 (0, 0))) => show x.cell? ⟨w.heap.size, 0, none⟩ = some (.slice aoo no co) ∧ x.cell? ⟨w.heap.size, 1, none⟩ = some (.slice aon nn cn) from ⟨(cell_of_block h).trans rfl, (cell_of_block h).trans rfl⟩)
    have HNO := hide hno
    have HNN := hide hnn
    clear hput hW bW x0 hx hy hno hnn hom hnm
    go_enter Tryz.func40, Tryz.ntmps40
    go_wp2_with fail
    rw [unhide HW]
    clear HW
    go_region_held_law (fun x => x.cell? ⟨w.heap.size, 0, none⟩ = some (.slice aoo no co) ∧ x.cell? ⟨w.heap.size, 1, none⟩ = some (.slice aon nn cn))
      (first | exact (unhide SX) _ (unhide X2) | exact (unhide SX) _ (unhide X1) | exact (unhide SX) _ (unhide X0))
      (first
        | (go_at_call_of 54 (Value.slice aoo no co)
           refine (rlistK W.heap.size (.slice none 0 0) [] aoo no co xs (unhide HNO) (by omega) _ (Own.nil _ _) ((unhide HXW) _ (unhide BW).drew _ (fun k _ => by simp [Value.ownBlock])) (by simp) (Nat.le_refl _)).mono ?_
           rintro e w1 ⟨v1, rfl, o1, k1'⟩
           have O1 := hide o1
           have P1 := hide (k1'.fresh (Below.refl W.heap.size W).drew (Nat.le_refl _))
           have X1 := hide (((unhide P1).below.block _ (blk_lt' (unhide X0))).trans (unhide X0))
           have B1 := hide ((unhide BW).trans ((unhide P1).below.mono (unhide BW).size))
           have V1 : Hid (∀ k, k < w.heap.size → (v1 : Value).ownBlock ≠ some k) := fun k hk e => by have := (own_tag (unhide O1).1 k e).1; have := (unhide BW).size; omega
           clear o1 k1')
        | (go_at_call 54
           refine (rlistK W.heap.size _ _ aon nn cn ys (unhide HNN) (by omega) _ (unhide O1) ((unhide HYW) _ (unhide B1) _ (unhide V1)) (by simp [nums_len]; have := unhide HNO; omega) (unhide P1).size).mono ?_
           rintro e w2 ⟨v2, rfl, o2, k2'⟩
           have O2 := hide o2
           have B2 := hide ((unhide B1).trans (k2'.below.mono (unhide BW).size))
           have X2 := hide ((k2'.below.block _ (blk_lt' (unhide X0))).trans (unhide X1))
           clear o2 k2'))
    all_goals go_wp2
    all_goals go_ret2
    all_goals
      refine ⟨v2, by simp, ?_, unhide B2⟩
      have h2 := (unhide O2).rebase (unhide BW).size
      have e2 : told (confBytes xs ys, 0) = [] ++ [no] ++ nums xs ++ [nn] ++ nums ys := by
        unfold told confBytes
        rw [if_pos rfl, unhide HNO, unhide HNN]
        simp
      rw [e2]
      exact h2
  · have hm := conf_many (xs := xs) (ys := ys) (by rw [hno, hnn]; omega)
    have htold : told (putConfig xs ys ([], 0)) = [] := by unfold told; rw [hm, if_neg (by decide)]
    rw [htold, hm]
    clear hm htold hW bW x0 hx hy hno hnn hom hnm
    by_cases h1 : 9 < no
    · go_enter Tryz.func40, Tryz.ntmps40
      go_wp2
      rw [unhide HW]
      go_ret2
      exact ⟨_, rfl, Own.nil _ _, unhide BW⟩
    · have h2 : 9 < nn := by omega
      clear hok
      go_enter Tryz.func40, Tryz.ntmps40
      go_wp2
      rw [unhide HW]
      go_ret2
      exact ⟨_, rfl, Own.nil _ _, unhide BW⟩
end Go.Proofs.YtgllokinadjiaaaGreatDoor.Ww
