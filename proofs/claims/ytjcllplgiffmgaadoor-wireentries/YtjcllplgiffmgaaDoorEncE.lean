/- wire.EncodeEntry: a contract. -/
import Derived.Test.YtjcllplgiffmgaaDoorWriterN
namespace Go.Proofs.YtjcllplgiffmgaaDoor
open Go.RowKit

/-- what Encode answers of what a writer has. -/
def told (s : List Nat × Nat) : List Nat := if s.2 = 0 then s.1 else []

set_option maxRecDepth 20000 in
set_option maxHeartbeats 1000000 in
theorem encE (kind client seq to' : Int) (t : ByteArray) (ht : t.size ≤ maxLen) (ao : Option Addr) (n cap : Nat) (ys : List Int) (hn : ys.length = n) (w : World) (hy : ∀ i, i < ys.length → ∃ a, ao = some a ∧ w.cell? (a.add i) = some (.int .i64 (ys.getD i 0))) (hS : Start w) :
    Calls Tryd.prog 31 #[.agg #[.int .i64 kind, .int .i64 client, .int .i64 seq, .string t, .slice ao n cap, .int .i64 to'], .func (.func 32) #[] #[]] w fun e w' =>
      ∃ v, e = .returned (.tuple #[v, .int .i64 (((putEntry kind client seq t ys to' ([], 0)).2 : Nat) : Int)]) ∧ Own w.heap.size w' v (told (putEntry kind client seq t ys to' ([], 0))) ∧ Below w.heap.size w w' := by
  obtain ⟨w1, hw1⟩ : ∃ w1, (w.alloc (.cells #[.int .i64 kind, .int .i64 client, .int .i64 seq, .string t, .slice ao n cap, .int .i64 to'] 24)).alloc (.cells #[.slice none 0 0, .nilIface] 105) = w1 := ⟨_, rfl⟩
  have b1 : Below w.heap.size w w1 := by rw [← hw1]; exact ((Below.refl _ w).alloc (Nat.le_refl _) _).alloc (by simp) _
  have hp1 : w1.heap[w.heap.size + 1]? = some (.cells #[.slice none 0 0, .nilIface] 105 (0, 0)) := by
    rw [← hw1]
    have h := heap_alloc_new (w.alloc (.cells #[.int .i64 kind, .int .i64 client, .int .i64 seq, .string t, .slice ao n cap, .int .i64 to'] 24)) (.cells #[.slice none 0 0, .nilIface] 105)
    simpa using h
  have wr1 : Wr w.heap.size w1 (w.heap.size + 1) [] 0 := ⟨_, _, hp1, by omega, Own.nil _ _, Or.inl ⟨rfl, rfl⟩⟩
  have y1 : Ints w.heap.size [5, 105] w1 ao ys := by
    intro i hi
    obtain ⟨a, ea, hc⟩ := hy i hi
    have hlt := blk_lt hc
    refine ⟨a, ea, by rw [b1.cell hlt]; exact hc, Or.inl (by rw [add_block] at hlt; exact hlt)⟩
  have S1 := hide (hS.below b1)
  have ZG := hide hS.2.2
  have B1 := hide b1
  have W1 := hide wr1
  have Y1 := hide y1
  have HN := hide hn
  have HT := hide ht
  have HW1 := hide hw1
  have sz := b1.size
  clear b1 hp1 wr1 y1 hn ht hw1 hy hS
  obtain ⟨f, hf⟩ : ∃ f, putEntry kind client seq t ys to' ([], 0) = f := ⟨_, rfl⟩
  rw [hf]
  have HF := hide hf
  clear hf
  go_enter Tryd.func31, Tryd.ntmps31
  go_wp2_with fail
  rw [unhide HW1]
  refine (entry_any w.heap.size (w.heap.size + 1) ([], 0) kind client seq to' t (unhide HT) ao n cap ys (unhide HN) (by simp) w1 (unhide W1) (unhide Y1) sz).mono ?_
  rintro e w2 ⟨rfl, h2, k2⟩
  rw [unhide HF] at h2
  obtain ⟨v, ev, hp, _, ho, herr⟩ := h2
  obtain ⟨aob, capb, rfl, _⟩ := ho.slice
  have c1 : w2.cell? ⟨w.heap.size + 1, 1, none⟩ = some ev := (cell_of_block hp).trans rfl
  have c0 : w2.cell? ⟨w.heap.size + 1, 0, none⟩ = some (.slice aob f.1.length capb) := (cell_of_block hp).trans rfl
  have B2 := hide ((unhide B1).trans k2.below)
  have G2 := hide ((unhide S1).2.1.below k2.below (by have := unhide ZG; omega))
  have HO := hide ho
  obtain ⟨fb, fe⟩ := f
  simp only at c0 herr
  by_cases hz : fe = 0
  · subst hz
    obtain rfl := herr.none
    clear hp ho herr k2
    go_wp2
    go_ret2
    exact ⟨_, rfl, by show Own _ _ _ (told (fb, 0)); unfold told; rw [if_pos rfl]; exact unhide HO, unhide B2⟩
  · have E2 := hide herr.err
    rcases herr with ⟨h0, _⟩ | ⟨b, x, _, rfl, _⟩
    · exact absurd h0 hz
    clear hp ho k2
    go_wp2_with fail
    refine (number_any _ fe w2 (unhide G2) (unhide E2)).mono ?_
    rintro e w3 ⟨rfl, hb3⟩
    have B3 := hide hb3
    clear hb3
    go_wp2
    go_ret2
    refine ⟨_, rfl, ?_, (unhide B2).trans ((unhide B3).mono (unhide B2).size)⟩
    show Own _ _ _ (told (fb, fe))
    unfold told; rw [if_neg hz]; exact Own.nil _ _

set_option maxRecDepth 20000 in
set_option maxHeartbeats 1000000 in
/-- EncodeEntry: the bytes, or the number of the first flaw. -/
theorem encodeEntry_any (kind client seq to' : Int) (t : ByteArray) (ht : t.size ≤ maxLen) (ao : Option Addr) (n cap : Nat) (ys : List Int) (hn : ys.length = n) (w : World) (hy : ∀ i, i < ys.length → ∃ a, ao = some a ∧ w.cell? (a.add i) = some (.int .i64 (ys.getD i 0))) (hS : Start w) :
    Calls Tryd.prog 9 #[.agg #[.int .i64 kind, .int .i64 client, .int .i64 seq, .string t, .slice ao n cap, .int .i64 to']] w fun e w' =>
      ∃ v, e = .returned (.tuple #[v, .int .i64 (((putEntry kind client seq t ys to' ([], 0)).2 : Nat) : Int)]) ∧ Own w.heap.size w' v (told (putEntry kind client seq t ys to' ([], 0))) ∧ Below w.heap.size w w' := by
  obtain ⟨w1, hw1⟩ : ∃ w1, w.alloc (.cells #[.int .i64 kind, .int .i64 client, .int .i64 seq, .string t, .slice ao n cap, .int .i64 to'] 24) = w1 := ⟨_, rfl⟩
  have b1 : Below w.heap.size w w1 := by rw [← hw1]; exact (Below.refl _ w).alloc (Nat.le_refl _) _
  have y1 : ∀ i, i < ys.length → ∃ a, ao = some a ∧ w1.cell? (a.add i) = some (.int .i64 (ys.getD i 0)) := by
    intro i hi
    obtain ⟨a, ea, hc⟩ := hy i hi
    exact ⟨a, ea, by rw [b1.cell (blk_lt hc)]; exact hc⟩
  have S1 := hide (hS.below b1)
  have B1 := hide b1
  have Y1 := hide y1
  have HN := hide hn
  have HT := hide ht
  have HW1 := hide hw1
  clear b1 y1 hn ht hw1 hy hS
  obtain ⟨f, hf⟩ : ∃ f, putEntry kind client seq t ys to' ([], 0) = f := ⟨_, rfl⟩
  rw [hf]
  have HF := hide hf
  clear hf
  go_enter Tryd.func9, Tryd.ntmps9
  go_wp2_with fail
  rw [unhide HW1]
  refine (encE kind client seq to' t (unhide HT) ao n cap ys (unhide HN) w1 (unhide Y1) (unhide S1)).mono ?_
  rw [unhide HF]
  rintro e w2 ⟨v, rfl, ho, hb⟩
  have HO := hide (ho.rebase (unhide B1).size)
  have B2 := hide ((unhide B1).trans (hb.mono (unhide B1).size))
  clear ho hb
  go_wp2
  go_ret2
  exact ⟨_, rfl, unhide HO, unhide B2⟩
end Go.Proofs.YtjcllplgiffmgaaDoor
