/- wire.EncodeEntry: a contract. wire's encode of a message and of a configuration: contracts. wire.EncodeMsg, wire.EncodeConfig: contracts. -/
import Derived.Test.YthjpdglbliigcaaDoorWriterI
namespace Go.Proofs.YthjpdglbliigcaaDoor
open Go.RowKit

/-- what Encode answers of what a writer has. -/
def told (s : List Nat × Nat) : List Nat := if s.2 = 0 then s.1 else []

set_option maxRecDepth 20000 in
set_option maxHeartbeats 1000000 in
theorem encE (kind client seq to' : Int) (t : ByteArray) (ht : t.size ≤ maxLen) (ao : Option Addr) (n cap : Nat) (ys : List Int) (hn : ys.length = n) (w : World) (hy : ∀ i, i < ys.length → ∃ a, ao = some a ∧ w.cell? (a.add i) = some (.int .i64 (ys.getD i 0))) (hS : Start w) :
    Calls Tryd.prog 31 #[.agg #[.int .i64 kind, .int .i64 client, .int .i64 seq, .string t, .slice ao n cap, .int .i64 to'], .func (.func 32) #[] #[]] w fun e w' =>
      ∃ v, e = .returned (.tuple #[v, .int .i64 (((putEntry kind client seq t ys to' ([], 0)).2 : Nat) : Int)]) ∧ Own w.heap.size w' v (told (putEntry kind client seq t ys to' ([], 0))) ∧ Below w.heap.size w w' := by
  obtain ⟨w1, hw1⟩ : ∃ w1, (w.alloc (.cells #[.int .i64 kind, .int .i64 client, .int .i64 seq, .string t, .slice ao n cap, .int .i64 to'] 24)).alloc (.cells #[.slice none 0 0, .nilIface] 105) = w1 := ⟨_, rfl⟩
  have b1 : Below w.heap.size w w1 := by rw [← hw1]; exact ((Below.refl _ w).alloc (Nat.le_refl _) _).alloc (by simp) _
  have hp1 : w1.heap[w.heap.size + 1]? = some (.cells #[.slice none 0 0, .nilIface] 105 (0, 0)) := by
    rw [← hw1]
    have h := heap_alloc_new (w.alloc (.cells #[.int .i64 kind, .int .i64 client, .int .i64 seq, .string t, .slice ao n cap, .int .i64 to'] 24)) (.cells #[.slice none 0 0, .nilIface] 105)
    simpa using h
  have wr1 : Wr w.heap.size w1 (w.heap.size + 1) [] 0 := ⟨_, _, hp1, by omega, Own.nil _ _, Or.inl ⟨rfl, rfl⟩⟩
  have y1 : Ints w.heap.size [5, 105] w1 ao ys := by
    intro i hi
    obtain ⟨a, ea, hc⟩ := hy i hi
    have hlt := blk_lt hc
    refine ⟨a, ea, by rw [b1.cell hlt]; exact hc, Or.inl (by rw [add_block] at hlt; exact hlt)⟩
  have S1 := hide (hS.below b1)
  have ZG := hide hS.2.2
  have B1 := hide b1
  have W1 := hide wr1
  have Y1 := hide y1
  have HN := hide hn
  have HT := hide ht
  have HW1 := hide hw1
  have sz := b1.size
  clear b1 hp1 wr1 y1 hn ht hw1 hy hS
  obtain ⟨f, hf⟩ : ∃ f, putEntry kind client seq t ys to' ([], 0) = f := ⟨_, rfl⟩
  rw [hf]
  have HF := hide hf
  clear hf
  go_enter Tryd.func31, Tryd.ntmps31
  go_wp2_with fail
  rw [unhide HW1]
  refine (entry_any w.heap.size (w.heap.size + 1) ([], 0) kind client seq to' t (unhide HT) ao n cap ys (unhide HN) (by simp) w1 (unhide W1) (unhide Y1) sz).mono ?_
  rintro e w2 ⟨rfl, h2, k2⟩
  rw [unhide HF] at h2
  obtain ⟨v, ev, hp, _, ho, herr⟩ := h2
  obtain ⟨aob, capb, rfl, _⟩ := ho.slice
  have c1 : w2.cell? ⟨w.heap.size + 1, 1, none⟩ = some ev := (cell_of_block hp).trans rfl
  have c0 : w2.cell? ⟨w.heap.size + 1, 0, none⟩ = some (.slice aob f.1.length capb) := (cell_of_block hp).trans rfl
  have B2 := hide ((unhide B1).trans k2.below)
  have G2 := hide ((unhide S1).2.1.below k2.below (by have := unhide ZG; omega))
  have HO := hide ho
  obtain ⟨fb, fe⟩ := f
  simp only at c0 herr
  by_cases hz : fe = 0
  · subst hz
    obtain rfl := herr.none
    clear hp ho herr k2
    go_wp2
    go_ret2
    exact ⟨_, rfl, by show Own _ _ _ (told (fb, 0)); unfold told; rw [if_pos rfl]; exact unhide HO, unhide B2⟩
  · have E2 := hide herr.err
    rcases herr with ⟨h0, _⟩ | ⟨b, x, _, rfl, _⟩
    · exact absurd h0 hz
    clear hp ho k2
    go_wp2_with fail
    refine (number_any _ fe w2 (unhide G2) (unhide E2)).mono ?_
    rintro e w3 ⟨rfl, hb3⟩
    have B3 := hide hb3
    clear hb3
    go_wp2
    go_ret2
    refine ⟨_, rfl, ?_, (unhide B2).trans ((unhide B3).mono (unhide B2).size)⟩
    show Own _ _ _ (told (fb, fe))
    unfold told; rw [if_neg hz]; exact Own.nil _ _

set_option maxRecDepth 20000 in
set_option maxHeartbeats 1000000 in
/-- EncodeEntry: the bytes, or the number of the first flaw. -/
theorem encodeEntry_any (kind client seq to' : Int) (t : ByteArray) (ht : t.size ≤ maxLen) (ao : Option Addr) (n cap : Nat) (ys : List Int) (hn : ys.length = n) (w : World) (hy : ∀ i, i < ys.length → ∃ a, ao = some a ∧ w.cell? (a.add i) = some (.int .i64 (ys.getD i 0))) (hS : Start w) :
    Calls Tryd.prog 9 #[.agg #[.int .i64 kind, .int .i64 client, .int .i64 seq, .string t, .slice ao n cap, .int .i64 to']] w fun e w' =>
      ∃ v, e = .returned (.tuple #[v, .int .i64 (((putEntry kind client seq t ys to' ([], 0)).2 : Nat) : Int)]) ∧ Own w.heap.size w' v (told (putEntry kind client seq t ys to' ([], 0))) ∧ Below w.heap.size w w' := by
  obtain ⟨w1, hw1⟩ : ∃ w1, w.alloc (.cells #[.int .i64 kind, .int .i64 client, .int .i64 seq, .string t, .slice ao n cap, .int .i64 to'] 24) = w1 := ⟨_, rfl⟩
  have b1 : Below w.heap.size w w1 := by rw [← hw1]; exact (Below.refl _ w).alloc (Nat.le_refl _) _
  have y1 : ∀ i, i < ys.length → ∃ a, ao = some a ∧ w1.cell? (a.add i) = some (.int .i64 (ys.getD i 0)) := by
    intro i hi
    obtain ⟨a, ea, hc⟩ := hy i hi
    exact ⟨a, ea, by rw [b1.cell (blk_lt hc)]; exact hc⟩
  have S1 := hide (hS.below b1)
  have B1 := hide b1
  have Y1 := hide y1
  have HN := hide hn
  have HT := hide ht
  have HW1 := hide hw1
  clear b1 y1 hn ht hw1 hy hS
  obtain ⟨f, hf⟩ : ∃ f, putEntry kind client seq t ys to' ([], 0) = f := ⟨_, rfl⟩
  rw [hf]
  have HF := hide hf
  clear hf
  go_enter Tryd.func9, Tryd.ntmps9
  go_wp2_with fail
  rw [unhide HW1]
  refine (encE kind client seq to' t (unhide HT) ao n cap ys (unhide HN) w1 (unhide Y1) (unhide S1)).mono ?_
  rw [unhide HF]
  rintro e w2 ⟨v, rfl, ho, hb⟩
  have HO := hide (ho.rebase (unhide B1).size)
  have B2 := hide ((unhide B1).trans (hb.mono (unhide B1).size))
  clear ho hb
  go_wp2
  go_ret2
  exact ⟨_, rfl, unhide HO, unhide B2⟩
end Go.Proofs.YthjpdglbliigcaaDoor
namespace Go.Proofs.YthjpdglbliigcaaDoor
open Go.RowKit

set_option maxRecDepth 20000 in
set_option maxHeartbeats 1000000 in
theorem encM (from' to' gen kind term index last commit : Int) (yes : Bool) (aot : Option Addr) (nt ct : Nat) (terms : List Int) (hnt : terms.length = nt) (aoe : Option Addr) (ne ce : Nat) (es : List En) (hne : es.length = ne) (hnm : ne ≤ 9223372036854775807) (aoo aon : Option Addr) (no nn co cn : Nat) (old new : List Int) (hno : old.length = no) (hnn : new.length = nn) (w : World) (ht : ∀ w1, Below w.heap.size w w1 → Ints w.heap.size [5, 105] w1 aot terms) (he : ∀ w1, Below w.heap.size w w1 → Ents w.heap.size [5, 105] w1 aoe es) (ho : ∀ w1, Below w.heap.size w w1 → Ints w.heap.size [5, 105] w1 aoo old) (hw : ∀ w1, Below w.heap.size w w1 → Ints w.heap.size [5, 105] w1 aon new) (hS : Start w) :
    Calls Tryd.prog 38 #[.agg #[.int .i64 from', .int .i64 to', .int .i64 gen, .int .i64 kind, .int .i64 term, .int .i64 index, .int .i64 last, .int .i64 commit, .bool yes, .slice aot nt ct, .slice aoe ne ce, .slice aoo no co, .slice aon nn cn], .func (.func 39) #[] #[]] w fun e w' =>
      ∃ v, e = .returned (.tuple #[v, .int .i64 (((putMsg from' to' gen kind term index last commit yes terms es old new ([], 0)).2 : Nat) : Int)]) ∧ Own w.heap.size w' v (told (putMsg from' to' gen kind term index last commit yes terms es old new ([], 0))) ∧ Below w.heap.size w w' := by
  obtain ⟨w1, hw1⟩ : ∃ w1, (w.alloc (.cells #[.int .i64 from', .int .i64 to', .int .i64 gen, .int .i64 kind, .int .i64 term, .int .i64 index, .int .i64 last, .int .i64 commit, .bool yes, .slice aot nt ct, .slice aoe ne ce, .slice aoo no co, .slice aon nn cn] 41)).alloc (.cells #[.slice none 0 0, .nilIface] 105) = w1 := ⟨_, rfl⟩
  have b1 : Below w.heap.size w w1 := by rw [← hw1]; exact ((Below.refl _ w).alloc (Nat.le_refl _) _).alloc (by simp) _
  have hp1 : w1.heap[w.heap.size + 1]? = some (.cells #[.slice none 0 0, .nilIface] 105 (0, 0)) := by
    rw [← hw1]
    have h := heap_alloc_new (w.alloc (.cells #[.int .i64 from', .int .i64 to', .int .i64 gen, .int .i64 kind, .int .i64 term, .int .i64 index, .int .i64 last, .int .i64 commit, .bool yes, .slice aot nt ct, .slice aoe ne ce, .slice aoo no co, .slice aon nn cn] 41)) (.cells #[.slice none 0 0, .nilIface] 105)
    simpa using h
  have wr1 : Wr w.heap.size w1 (w.heap.size + 1) [] 0 := ⟨_, _, hp1, by omega, Own.nil _ _, Or.inl ⟨rfl, rfl⟩⟩
  have hcall := msg_any w.heap.size (w.heap.size + 1) ([], 0) from' to' gen kind term index last commit yes aot nt ct terms hnt aoe ne ce es hne hnm aoo aon no nn co cn old new hno hnn (by simp) w1 wr1 (ht w1 b1) (he w1 b1) (ho w1 b1) (hw w1 b1) b1.size
  have S1 := hide (hS.below b1)
  have ZG := hide hS.2.2
  have B1 := hide b1
  have HW1 := hide hw1
  obtain ⟨f, hf⟩ : ∃ f, putMsg from' to' gen kind term index last commit yes terms es old new ([], 0) = f := ⟨_, rfl⟩
  rw [hf] at hcall ⊢
  have HC := hide hcall
  clear b1 hp1 wr1 hw1 hS hf hcall ht he ho hw
  go_enter Tryd.func38, Tryd.ntmps38
  go_wp2_with fail
  rw [unhide HW1]
  refine (unhide HC).mono ?_
  rintro e w2 ⟨rfl, h2, k2⟩
  obtain ⟨v, ev, hp, _, ho, herr⟩ := h2
  obtain ⟨aob, capb, rfl, _⟩ := ho.slice
  have c1 : w2.cell? ⟨w.heap.size + 1, 1, none⟩ = some ev := (cell_of_block hp).trans rfl
  have c0 : w2.cell? ⟨w.heap.size + 1, 0, none⟩ = some (.slice aob f.1.length capb) := (cell_of_block hp).trans rfl
  have B2 := hide ((unhide B1).trans k2.below)
  have G2 := hide ((unhide S1).2.1.below k2.below (by have := unhide ZG; omega))
  have HO := hide ho
  obtain ⟨fb, fe⟩ := f
  simp only at c0 herr
  by_cases hz : fe = 0
  · subst hz
    obtain rfl := herr.none
    clear hp ho herr k2
    go_wp2
    go_ret2
    exact ⟨_, rfl, by show Own _ _ _ (told (fb, 0)); unfold told; rw [if_pos rfl]; exact unhide HO, unhide B2⟩
  · have E2 := hide herr.err
    rcases herr with ⟨h0, _⟩ | ⟨b, x, _, rfl, _⟩
    · exact absurd h0 hz
    clear hp ho k2
    go_wp2_with fail
    refine (number_any _ fe w2 (unhide G2) (unhide E2)).mono ?_
    rintro e w3 ⟨rfl, hb3⟩
    have B3 := hide hb3
    clear hb3
    go_wp2
    go_ret2
    refine ⟨_, rfl, ?_, (unhide B2).trans ((unhide B3).mono (unhide B2).size)⟩
    show Own _ _ _ (told (fb, fe))
    unfold told; rw [if_neg hz]; exact Own.nil _ _

set_option maxRecDepth 20000 in
set_option maxHeartbeats 1000000 in
theorem encC (aoo aon : Option Addr) (no nn co cn : Nat) (old new : List Int) (hno : old.length = no) (hnn : new.length = nn) (w : World) (ho : ∀ w1, Below w.heap.size w w1 → Ints w.heap.size [5, 105] w1 aoo old) (hw : ∀ w1, Below w.heap.size w w1 → Ints w.heap.size [5, 105] w1 aon new) (hS : Start w) :
    Calls Tryd.prog 42 #[.agg #[.slice aoo no co, .slice aon nn cn], .func (.func 43) #[] #[]] w fun e w' =>
      ∃ v, e = .returned (.tuple #[v, .int .i64 (((putConfig old new ([], 0)).2 : Nat) : Int)]) ∧ Own w.heap.size w' v (told (putConfig old new ([], 0))) ∧ Below w.heap.size w w' := by
  obtain ⟨w1, hw1⟩ : ∃ w1, (w.alloc (.cells #[.slice aoo no co, .slice aon nn cn] 39)).alloc (.cells #[.slice none 0 0, .nilIface] 105) = w1 := ⟨_, rfl⟩
  have b1 : Below w.heap.size w w1 := by rw [← hw1]; exact ((Below.refl _ w).alloc (Nat.le_refl _) _).alloc (by simp) _
  have hp1 : w1.heap[w.heap.size + 1]? = some (.cells #[.slice none 0 0, .nilIface] 105 (0, 0)) := by
    rw [← hw1]
    have h := heap_alloc_new (w.alloc (.cells #[.slice aoo no co, .slice aon nn cn] 39)) (.cells #[.slice none 0 0, .nilIface] 105)
    simpa using h
  have wr1 : Wr w.heap.size w1 (w.heap.size + 1) [] 0 := ⟨_, _, hp1, by omega, Own.nil _ _, Or.inl ⟨rfl, rfl⟩⟩
  have hcall := config_any w.heap.size (w.heap.size + 1) ([], 0) aoo aon no nn co cn old new hno hnn (by simp) w1 wr1 (ho w1 b1) (hw w1 b1) b1.size
  have S1 := hide (hS.below b1)
  have ZG := hide hS.2.2
  have B1 := hide b1
  have HW1 := hide hw1
  obtain ⟨f, hf⟩ : ∃ f, putConfig old new ([], 0) = f := ⟨_, rfl⟩
  rw [hf] at hcall ⊢
  have HC := hide hcall
  clear b1 hp1 wr1 hw1 hS hf hcall ho hw
  go_enter Tryd.func42, Tryd.ntmps42
  go_wp2_with fail
  rw [unhide HW1]
  refine (unhide HC).mono ?_
  rintro e w2 ⟨rfl, h2, k2⟩
  obtain ⟨v, ev, hp, _, ho, herr⟩ := h2
  obtain ⟨aob, capb, rfl, _⟩ := ho.slice
  have c1 : w2.cell? ⟨w.heap.size + 1, 1, none⟩ = some ev := (cell_of_block hp).trans rfl
  have c0 : w2.cell? ⟨w.heap.size + 1, 0, none⟩ = some (.slice aob f.1.length capb) := (cell_of_block hp).trans rfl
  have B2 := hide ((unhide B1).trans k2.below)
  have G2 := hide ((unhide S1).2.1.below k2.below (by have := unhide ZG; omega))
  have HO := hide ho
  obtain ⟨fb, fe⟩ := f
  simp only at c0 herr
  by_cases hz : fe = 0
  · subst hz
    obtain rfl := herr.none
    clear hp ho herr k2
    go_wp2
    go_ret2
    exact ⟨_, rfl, by show Own _ _ _ (told (fb, 0)); unfold told; rw [if_pos rfl]; exact unhide HO, unhide B2⟩
  · have E2 := hide herr.err
    rcases herr with ⟨h0, _⟩ | ⟨b, x, _, rfl, _⟩
    · exact absurd h0 hz
    clear hp ho k2
    go_wp2_with fail
    refine (number_any _ fe w2 (unhide G2) (unhide E2)).mono ?_
    rintro e w3 ⟨rfl, hb3⟩
    have B3 := hide hb3
    clear hb3
    go_wp2
    go_ret2
    refine ⟨_, rfl, ?_, (unhide B2).trans ((unhide B3).mono (unhide B2).size)⟩
    show Own _ _ _ (told (fb, fe))
    unfold told; rw [if_neg hz]; exact Own.nil _ _
end Go.Proofs.YthjpdglbliigcaaDoor
namespace Go.Proofs.YthjpdglbliigcaaDoor
open Go.RowKit

set_option maxRecDepth 20000 in
set_option maxHeartbeats 1000000 in
theorem encodeMsg_any (from' to' gen kind term index last commit : Int) (yes : Bool) (aot : Option Addr) (nt ct : Nat) (terms : List Int) (hnt : terms.length = nt) (aoe : Option Addr) (ne ce : Nat) (es : List En) (hne : es.length = ne) (hnm : ne ≤ 9223372036854775807) (aoo aon : Option Addr) (no nn co cn : Nat) (old new : List Int) (hno : old.length = no) (hnn : new.length = nn) (w : World) (ht : ∀ b w1, b ≤ w1.heap.size → w.heap.size ≤ b → Below w.heap.size w w1 → Ints b [5, 105] w1 aot terms) (he : ∀ b w1, b ≤ w1.heap.size → w.heap.size ≤ b → Below w.heap.size w w1 → Ents b [5, 105] w1 aoe es) (ho : ∀ b w1, b ≤ w1.heap.size → w.heap.size ≤ b → Below w.heap.size w w1 → Ints b [5, 105] w1 aoo old) (hw : ∀ b w1, b ≤ w1.heap.size → w.heap.size ≤ b → Below w.heap.size w w1 → Ints b [5, 105] w1 aon new) (hS : Start w) :
    Calls Tryd.prog 16 #[.agg #[.int .i64 from', .int .i64 to', .int .i64 gen, .int .i64 kind, .int .i64 term, .int .i64 index, .int .i64 last, .int .i64 commit, .bool yes, .slice aot nt ct, .slice aoe ne ce, .slice aoo no co, .slice aon nn cn]] w fun e w' =>
      ∃ v, e = .returned (.tuple #[v, .int .i64 (((putMsg from' to' gen kind term index last commit yes terms es old new ([], 0)).2 : Nat) : Int)]) ∧ Own w.heap.size w' v (told (putMsg from' to' gen kind term index last commit yes terms es old new ([], 0))) ∧ Below w.heap.size w w' := by
  obtain ⟨w1, hw1⟩ : ∃ w1, w.alloc (.cells #[.int .i64 from', .int .i64 to', .int .i64 gen, .int .i64 kind, .int .i64 term, .int .i64 index, .int .i64 last, .int .i64 commit, .bool yes, .slice aot nt ct, .slice aoe ne ce, .slice aoo no co, .slice aon nn cn] 41) = w1 := ⟨_, rfl⟩
  have b1 : Below w.heap.size w w1 := by rw [← hw1]; exact (Below.refl _ w).alloc (Nat.le_refl _) _
  have hcall := encM from' to' gen kind term index last commit yes aot nt ct terms hnt aoe ne ce es hne hnm aoo aon no nn co cn old new hno hnn w1 (fun w2 hb2 => ht w1.heap.size w2 hb2.size b1.size (b1.trans (hb2.mono b1.size))) (fun w2 hb2 => he w1.heap.size w2 hb2.size b1.size (b1.trans (hb2.mono b1.size))) (fun w2 hb2 => ho w1.heap.size w2 hb2.size b1.size (b1.trans (hb2.mono b1.size))) (fun w2 hb2 => hw w1.heap.size w2 hb2.size b1.size (b1.trans (hb2.mono b1.size))) (hS.below b1)
  have S1 := hide (hS.below b1)
  have B1 := hide b1
  have HW1 := hide hw1
  obtain ⟨f, hf⟩ : ∃ f, putMsg from' to' gen kind term index last commit yes terms es old new ([], 0) = f := ⟨_, rfl⟩
  rw [hf] at hcall ⊢
  have HC := hide hcall
  clear b1 hw1 hS hf hcall ht he ho hw
  go_enter Tryd.func16, Tryd.ntmps16
  go_wp2_with fail
  rw [unhide HW1]
  refine (unhide HC).mono ?_
  rintro e w2 ⟨v, rfl, ho, hb⟩
  have HO := hide (ho.rebase (unhide B1).size)
  have B2 := hide ((unhide B1).trans (hb.mono (unhide B1).size))
  clear ho hb
  go_wp2
  go_ret2
  exact ⟨_, rfl, unhide HO, unhide B2⟩

set_option maxRecDepth 20000 in
set_option maxHeartbeats 1000000 in
theorem encodeConfig_any (aoo aon : Option Addr) (no nn co cn : Nat) (old new : List Int) (hno : old.length = no) (hnn : new.length = nn) (w : World) (ho : ∀ b w1, b ≤ w1.heap.size → w.heap.size ≤ b → Below w.heap.size w w1 → Ints b [5, 105] w1 aoo old) (hw : ∀ b w1, b ≤ w1.heap.size → w.heap.size ≤ b → Below w.heap.size w w1 → Ints b [5, 105] w1 aon new) (hS : Start w) :
    Calls Tryd.prog 18 #[.agg #[.slice aoo no co, .slice aon nn cn]] w fun e w' =>
      ∃ v, e = .returned (.tuple #[v, .int .i64 (((putConfig old new ([], 0)).2 : Nat) : Int)]) ∧ Own w.heap.size w' v (told (putConfig old new ([], 0))) ∧ Below w.heap.size w w' := by
  obtain ⟨w1, hw1⟩ : ∃ w1, w.alloc (.cells #[.slice aoo no co, .slice aon nn cn] 39) = w1 := ⟨_, rfl⟩
  have b1 : Below w.heap.size w w1 := by rw [← hw1]; exact (Below.refl _ w).alloc (Nat.le_refl _) _
  have hcall := encC aoo aon no nn co cn old new hno hnn w1 (fun w2 hb2 => ho w1.heap.size w2 hb2.size b1.size (b1.trans (hb2.mono b1.size))) (fun w2 hb2 => hw w1.heap.size w2 hb2.size b1.size (b1.trans (hb2.mono b1.size))) (hS.below b1)
  have S1 := hide (hS.below b1)
  have B1 := hide b1
  have HW1 := hide hw1
  obtain ⟨f, hf⟩ : ∃ f, putConfig old new ([], 0) = f := ⟨_, rfl⟩
  rw [hf] at hcall ⊢
  have HC := hide hcall
  clear b1 hw1 hS hf hcall ho hw
  go_enter Tryd.func18, Tryd.ntmps18
  go_wp2_with fail
  rw [unhide HW1]
  refine (unhide HC).mono ?_
  rintro e w2 ⟨v, rfl, ho, hb⟩
  have HO := hide (ho.rebase (unhide B1).size)
  have B2 := hide ((unhide B1).trans (hb.mono (unhide B1).size))
  clear ho hb
  go_wp2
  go_ret2
  exact ⟨_, rfl, unhide HO, unhide B2⟩
end Go.Proofs.YthjpdglbliigcaaDoor
