/- wire.EncodeEntry: a contract. wire's encode of a message and of a configuration: contracts. wire.EncodeMsg, wire.EncodeConfig: contracts. WireBounds: what is refused, by numbers alone; rows of zeros. -/
import Derived.Test.YtojmnlbdhpledaaDoorWriter
import Derived.Laws.BytesArg
import Derived.Deep.OwnRows
namespace Go.Proofs.YtojmnlbdhpledaaDoor
open Go.RowKit

/-- what Encode answers of what a writer has. -/
def told (s : List Nat × Nat) : List Nat := if s.2 = 0 then s.1 else []

set_option maxRecDepth 20000 in
set_option maxHeartbeats 1000000 in
theorem encE (kind client seq to' : Int) (t : ByteArray) (ht : t.size ≤ maxLen) (ao : Option Addr) (n cap : Nat) (ys : List Int) (hn : ys.length = n) (w : World) (hy : ∀ i, i < ys.length → ∃ a, ao = some a ∧ w.cell? (a.add i) = some (.int .i64 (ys.getD i 0))) (hS : Start w) :
    Calls Tryd.prog 31 #[.agg #[.int .i64 kind, .int .i64 client, .int .i64 seq, .string t, .slice ao n cap, .int .i64 to'], .func (.func 32) #[] #[]] w fun e w' =>
      ∃ v, e = .returned (.tuple #[v, .int .i64 (((putEntry kind client seq t ys to' ([], 0)).2 : Nat) : Int)]) ∧ Own w.heap.size w' v (told (putEntry kind client seq t ys to' ([], 0))) ∧ Below w.heap.size w w' := by
  obtain ⟨w1, hw1⟩ : ∃ w1, (w.alloc (.cells #[.int .i64 kind, .int .i64 client, .int .i64 seq, .string t, .slice ao n cap, .int .i64 to'] 24)).alloc (.cells #[.slice none 0 0, .nilIface] 105) = w1 := ⟨_, rfl⟩
  have b1 : Below w.heap.size w w1 := by rw [← hw1]; exact ((Below.refl _ w).alloc (Nat.le_refl _) _).alloc (by simp) _
  have hp1 : w1.heap[w.heap.size + 1]? = some (.cells #[.slice none 0 0, .nilIface] 105 (0, 0)) := by
    rw [← hw1]
    have h := heap_alloc_new (w.alloc (.cells #[.int .i64 kind, .int .i64 client, .int .i64 seq, .string t, .slice ao n cap, .int .i64 to'] 24)) (.cells #[.slice none 0 0, .nilIface] 105)
    simpa using h
  have wr1 : Wr w.heap.size w1 (w.heap.size + 1) [] 0 := ⟨_, _, hp1, by omega, Own.nil _ _, Or.inl ⟨rfl, rfl⟩⟩
  have y1 : Ints w.heap.size [5, 105] w1 ao ys := by
    intro i hi
    obtain ⟨a, ea, hc⟩ := hy i hi
    have hlt := blk_lt hc
    refine ⟨a, ea, by rw [b1.cell hlt]; exact hc, Or.inl (by rw [add_block] at hlt; exact hlt)⟩
  have S1 := hide (hS.below b1)
  have ZG := hide hS.2.2
  have B1 := hide b1
  have W1 := hide wr1
  have Y1 := hide y1
  have HN := hide hn
  have HT := hide ht
  have HW1 := hide hw1
  have sz := b1.size
  clear b1 hp1 wr1 y1 hn ht hw1 hy hS
  obtain ⟨f, hf⟩ : ∃ f, putEntry kind client seq t ys to' ([], 0) = f := ⟨_, rfl⟩
  rw [hf]
  have HF := hide hf
  clear hf
  go_enter Tryd.func31, Tryd.ntmps31
  go_wp2_with fail
  rw [unhide HW1]
  refine (entry_any w.heap.size (w.heap.size + 1) ([], 0) kind client seq to' t (unhide HT) ao n cap ys (unhide HN) (by simp) w1 (unhide W1) (unhide Y1) sz).mono ?_
  rintro e w2 ⟨rfl, h2, k2⟩
  rw [unhide HF] at h2
  obtain ⟨v, ev, hp, _, ho, herr⟩ := h2
  obtain ⟨aob, capb, rfl, _⟩ := ho.slice
  have c1 : w2.cell? ⟨w.heap.size + 1, 1, none⟩ = some ev := (cell_of_block hp).trans rfl
  have c0 : w2.cell? ⟨w.heap.size + 1, 0, none⟩ = some (.slice aob f.1.length capb) := (cell_of_block hp).trans rfl
  have B2 := hide ((unhide B1).trans k2.below)
  have G2 := hide ((unhide S1).2.1.below k2.below (by have := unhide ZG; omega))
  have HO := hide ho
  obtain ⟨fb, fe⟩ := f
  simp only at c0 herr
  by_cases hz : fe = 0
  · subst hz
    obtain rfl := herr.none
    clear hp ho herr k2
    go_wp2
    go_ret2
    exact ⟨_, rfl, by show Own _ _ _ (told (fb, 0)); unfold told; rw [if_pos rfl]; exact unhide HO, unhide B2⟩
  · have E2 := hide herr.err
    rcases herr with ⟨h0, _⟩ | ⟨b, x, _, rfl, _⟩
    · exact absurd h0 hz
    clear hp ho k2
    go_wp2_with fail
    refine (number_any _ fe w2 (unhide G2) (unhide E2)).mono ?_
    rintro e w3 ⟨rfl, hb3⟩
    have B3 := hide hb3
    clear hb3
    go_wp2
    go_ret2
    refine ⟨_, rfl, ?_, (unhide B2).trans ((unhide B3).mono (unhide B2).size)⟩
    show Own _ _ _ (told (fb, fe))
    unfold told; rw [if_neg hz]; exact Own.nil _ _

set_option maxRecDepth 20000 in
set_option maxHeartbeats 1000000 in
/-- EncodeEntry: the bytes, or the number of the first flaw. -/
theorem encodeEntry_any (kind client seq to' : Int) (t : ByteArray) (ht : t.size ≤ maxLen) (ao : Option Addr) (n cap : Nat) (ys : List Int) (hn : ys.length = n) (w : World) (hy : ∀ i, i < ys.length → ∃ a, ao = some a ∧ w.cell? (a.add i) = some (.int .i64 (ys.getD i 0))) (hS : Start w) :
    Calls Tryd.prog 9 #[.agg #[.int .i64 kind, .int .i64 client, .int .i64 seq, .string t, .slice ao n cap, .int .i64 to']] w fun e w' =>
      ∃ v, e = .returned (.tuple #[v, .int .i64 (((putEntry kind client seq t ys to' ([], 0)).2 : Nat) : Int)]) ∧ Own w.heap.size w' v (told (putEntry kind client seq t ys to' ([], 0))) ∧ Below w.heap.size w w' := by
  obtain ⟨w1, hw1⟩ : ∃ w1, w.alloc (.cells #[.int .i64 kind, .int .i64 client, .int .i64 seq, .string t, .slice ao n cap, .int .i64 to'] 24) = w1 := ⟨_, rfl⟩
  have b1 : Below w.heap.size w w1 := by rw [← hw1]; exact (Below.refl _ w).alloc (Nat.le_refl _) _
  have y1 : ∀ i, i < ys.length → ∃ a, ao = some a ∧ w1.cell? (a.add i) = some (.int .i64 (ys.getD i 0)) := by
    intro i hi
    obtain ⟨a, ea, hc⟩ := hy i hi
    exact ⟨a, ea, by rw [b1.cell (blk_lt hc)]; exact hc⟩
  have S1 := hide (hS.below b1)
  have B1 := hide b1
  have Y1 := hide y1
  have HN := hide hn
  have HT := hide ht
  have HW1 := hide hw1
  clear b1 y1 hn ht hw1 hy hS
  obtain ⟨f, hf⟩ : ∃ f, putEntry kind client seq t ys to' ([], 0) = f := ⟨_, rfl⟩
  rw [hf]
  have HF := hide hf
  clear hf
  go_enter Tryd.func9, Tryd.ntmps9
  go_wp2_with fail
  rw [unhide HW1]
  refine (encE kind client seq to' t (unhide HT) ao n cap ys (unhide HN) w1 (unhide Y1) (unhide S1)).mono ?_
  rw [unhide HF]
  rintro e w2 ⟨v, rfl, ho, hb⟩
  have HO := hide (ho.rebase (unhide B1).size)
  have B2 := hide ((unhide B1).trans (hb.mono (unhide B1).size))
  clear ho hb
  go_wp2
  go_ret2
  exact ⟨_, rfl, unhide HO, unhide B2⟩
end Go.Proofs.YtojmnlbdhpledaaDoor
namespace Go.Proofs.YtojmnlbdhpledaaDoor
open Go.RowKit

set_option maxRecDepth 20000 in
set_option maxHeartbeats 1000000 in
theorem encM (from' to' gen kind term index last commit : Int) (yes : Bool) (aot : Option Addr) (nt ct : Nat) (terms : List Int) (hnt : terms.length = nt) (aoe : Option Addr) (ne ce : Nat) (es : List En) (hne : es.length = ne) (hnm : ne ≤ 9223372036854775807) (aoo aon : Option Addr) (no nn co cn : Nat) (old new : List Int) (hno : old.length = no) (hnn : new.length = nn) (w : World) (ht : ∀ w1, Below w.heap.size w w1 → Ints w.heap.size [5, 105] w1 aot terms) (he : ∀ w1, Below w.heap.size w w1 → Ents w.heap.size [5, 105] w1 aoe es) (ho : ∀ w1, Below w.heap.size w w1 → Ints w.heap.size [5, 105] w1 aoo old) (hw : ∀ w1, Below w.heap.size w w1 → Ints w.heap.size [5, 105] w1 aon new) (hS : Start w) :
    Calls Tryd.prog 38 #[.agg #[.int .i64 from', .int .i64 to', .int .i64 gen, .int .i64 kind, .int .i64 term, .int .i64 index, .int .i64 last, .int .i64 commit, .bool yes, .slice aot nt ct, .slice aoe ne ce, .slice aoo no co, .slice aon nn cn], .func (.func 39) #[] #[]] w fun e w' =>
      ∃ v, e = .returned (.tuple #[v, .int .i64 (((putMsg from' to' gen kind term index last commit yes terms es old new ([], 0)).2 : Nat) : Int)]) ∧ Own w.heap.size w' v (told (putMsg from' to' gen kind term index last commit yes terms es old new ([], 0))) ∧ Below w.heap.size w w' := by
  obtain ⟨w1, hw1⟩ : ∃ w1, (w.alloc (.cells #[.int .i64 from', .int .i64 to', .int .i64 gen, .int .i64 kind, .int .i64 term, .int .i64 index, .int .i64 last, .int .i64 commit, .bool yes, .slice aot nt ct, .slice aoe ne ce, .slice aoo no co, .slice aon nn cn] 41)).alloc (.cells #[.slice none 0 0, .nilIface] 105) = w1 := ⟨_, rfl⟩
  have b1 : Below w.heap.size w w1 := by rw [← hw1]; exact ((Below.refl _ w).alloc (Nat.le_refl _) _).alloc (by simp) _
  have hp1 : w1.heap[w.heap.size + 1]? = some (.cells #[.slice none 0 0, .nilIface] 105 (0, 0)) := by
    rw [← hw1]
    have h := heap_alloc_new (w.alloc (.cells #[.int .i64 from', .int .i64 to', .int .i64 gen, .int .i64 kind, .int .i64 term, .int .i64 index, .int .i64 last, .int .i64 commit, .bool yes, .slice aot nt ct, .slice aoe ne ce, .slice aoo no co, .slice aon nn cn] 41)) (.cells #[.slice none 0 0, .nilIface] 105)
    simpa using h
  have wr1 : Wr w.heap.size w1 (w.heap.size + 1) [] 0 := ⟨_, _, hp1, by omega, Own.nil _ _, Or.inl ⟨rfl, rfl⟩⟩
  have hcall := msg_any w.heap.size (w.heap.size + 1) ([], 0) from' to' gen kind term index last commit yes aot nt ct terms hnt aoe ne ce es hne hnm aoo aon no nn co cn old new hno hnn (by simp) w1 wr1 (ht w1 b1) (he w1 b1) (ho w1 b1) (hw w1 b1) b1.size
  have S1 := hide (hS.below b1)
  have ZG := hide hS.2.2
  have B1 := hide b1
  have HW1 := hide hw1
  obtain ⟨f, hf⟩ : ∃ f, putMsg from' to' gen kind term index last commit yes terms es old new ([], 0) = f := ⟨_, rfl⟩
  rw [hf] at hcall ⊢
  have HC := hide hcall
  clear b1 hp1 wr1 hw1 hS hf hcall ht he ho hw
  go_enter Tryd.func38, Tryd.ntmps38
  go_wp2_with fail
  rw [unhide HW1]
  refine (unhide HC).mono ?_
  rintro e w2 ⟨rfl, h2, k2⟩
  obtain ⟨v, ev, hp, _, ho, herr⟩ := h2
  obtain ⟨aob, capb, rfl, _⟩ := ho.slice
  have c1 : w2.cell? ⟨w.heap.size + 1, 1, none⟩ = some ev := (cell_of_block hp).trans rfl
  have c0 : w2.cell? ⟨w.heap.size + 1, 0, none⟩ = some (.slice aob f.1.length capb) := (cell_of_block hp).trans rfl
  have B2 := hide ((unhide B1).trans k2.below)
  have G2 := hide ((unhide S1).2.1.below k2.below (by have := unhide ZG; omega))
  have HO := hide ho
  obtain ⟨fb, fe⟩ := f
  simp only at c0 herr
  by_cases hz : fe = 0
  · subst hz
    obtain rfl := herr.none
    clear hp ho herr k2
    go_wp2
    go_ret2
    exact ⟨_, rfl, by show Own _ _ _ (told (fb, 0)); unfold told; rw [if_pos rfl]; exact unhide HO, unhide B2⟩
  · have E2 := hide herr.err
    rcases herr with ⟨h0, _⟩ | ⟨b, x, _, rfl, _⟩
    · exact absurd h0 hz
    clear hp ho k2
    go_wp2_with fail
    refine (number_any _ fe w2 (unhide G2) (unhide E2)).mono ?_
    rintro e w3 ⟨rfl, hb3⟩
    have B3 := hide hb3
    clear hb3
    go_wp2
    go_ret2
    refine ⟨_, rfl, ?_, (unhide B2).trans ((unhide B3).mono (unhide B2).size)⟩
    show Own _ _ _ (told (fb, fe))
    unfold told; rw [if_neg hz]; exact Own.nil _ _

set_option maxRecDepth 20000 in
set_option maxHeartbeats 1000000 in
theorem encC (aoo aon : Option Addr) (no nn co cn : Nat) (old new : List Int) (hno : old.length = no) (hnn : new.length = nn) (w : World) (ho : ∀ w1, Below w.heap.size w w1 → Ints w.heap.size [5, 105] w1 aoo old) (hw : ∀ w1, Below w.heap.size w w1 → Ints w.heap.size [5, 105] w1 aon new) (hS : Start w) :
    Calls Tryd.prog 42 #[.agg #[.slice aoo no co, .slice aon nn cn], .func (.func 43) #[] #[]] w fun e w' =>
      ∃ v, e = .returned (.tuple #[v, .int .i64 (((putConfig old new ([], 0)).2 : Nat) : Int)]) ∧ Own w.heap.size w' v (told (putConfig old new ([], 0))) ∧ Below w.heap.size w w' := by
  obtain ⟨w1, hw1⟩ : ∃ w1, (w.alloc (.cells #[.slice aoo no co, .slice aon nn cn] 39)).alloc (.cells #[.slice none 0 0, .nilIface] 105) = w1 := ⟨_, rfl⟩
  have b1 : Below w.heap.size w w1 := by rw [← hw1]; exact ((Below.refl _ w).alloc (Nat.le_refl _) _).alloc (by simp) _
  have hp1 : w1.heap[w.heap.size + 1]? = some (.cells #[.slice none 0 0, .nilIface] 105 (0, 0)) := by
    rw [← hw1]
    have h := heap_alloc_new (w.alloc (.cells #[.slice aoo no co, .slice aon nn cn] 39)) (.cells #[.slice none 0 0, .nilIface] 105)
    simpa using h
  have wr1 : Wr w.heap.size w1 (w.heap.size + 1) [] 0 := ⟨_, _, hp1, by omega, Own.nil _ _, Or.inl ⟨rfl, rfl⟩⟩
  have hcall := config_any w.heap.size (w.heap.size + 1) ([], 0) aoo aon no nn co cn old new hno hnn (by simp) w1 wr1 (ho w1 b1) (hw w1 b1) b1.size
  have S1 := hide (hS.below b1)
  have ZG := hide hS.2.2
  have B1 := hide b1
  have HW1 := hide hw1
  obtain ⟨f, hf⟩ : ∃ f, putConfig old new ([], 0) = f := ⟨_, rfl⟩
  rw [hf] at hcall ⊢
  have HC := hide hcall
  clear b1 hp1 wr1 hw1 hS hf hcall ho hw
  go_enter Tryd.func42, Tryd.ntmps42
  go_wp2_with fail
  rw [unhide HW1]
  refine (unhide HC).mono ?_
  rintro e w2 ⟨rfl, h2, k2⟩
  obtain ⟨v, ev, hp, _, ho, herr⟩ := h2
  obtain ⟨aob, capb, rfl, _⟩ := ho.slice
  have c1 : w2.cell? ⟨w.heap.size + 1, 1, none⟩ = some ev := (cell_of_block hp).trans rfl
  have c0 : w2.cell? ⟨w.heap.size + 1, 0, none⟩ = some (.slice aob f.1.length capb) := (cell_of_block hp).trans rfl
  have B2 := hide ((unhide B1).trans k2.below)
  have G2 := hide ((unhide S1).2.1.below k2.below (by have := unhide ZG; omega))
  have HO := hide ho
  obtain ⟨fb, fe⟩ := f
  simp only at c0 herr
  by_cases hz : fe = 0
  · subst hz
    obtain rfl := herr.none
    clear hp ho herr k2
    go_wp2
    go_ret2
    exact ⟨_, rfl, by show Own _ _ _ (told (fb, 0)); unfold told; rw [if_pos rfl]; exact unhide HO, unhide B2⟩
  · have E2 := hide herr.err
    rcases herr with ⟨h0, _⟩ | ⟨b, x, _, rfl, _⟩
    · exact absurd h0 hz
    clear hp ho k2
    go_wp2_with fail
    refine (number_any _ fe w2 (unhide G2) (unhide E2)).mono ?_
    rintro e w3 ⟨rfl, hb3⟩
    have B3 := hide hb3
    clear hb3
    go_wp2
    go_ret2
    refine ⟨_, rfl, ?_, (unhide B2).trans ((unhide B3).mono (unhide B2).size)⟩
    show Own _ _ _ (told (fb, fe))
    unfold told; rw [if_neg hz]; exact Own.nil _ _
end Go.Proofs.YtojmnlbdhpledaaDoor
namespace Go.Proofs.YtojmnlbdhpledaaDoor
open Go.RowKit

set_option maxRecDepth 20000 in
set_option maxHeartbeats 1000000 in
theorem encodeMsg_any (from' to' gen kind term index last commit : Int) (yes : Bool) (aot : Option Addr) (nt ct : Nat) (terms : List Int) (hnt : terms.length = nt) (aoe : Option Addr) (ne ce : Nat) (es : List En) (hne : es.length = ne) (hnm : ne ≤ 9223372036854775807) (aoo aon : Option Addr) (no nn co cn : Nat) (old new : List Int) (hno : old.length = no) (hnn : new.length = nn) (w : World) (ht : ∀ b w1, b ≤ w1.heap.size → w.heap.size ≤ b → Below w.heap.size w w1 → Ints b [5, 105] w1 aot terms) (he : ∀ b w1, b ≤ w1.heap.size → w.heap.size ≤ b → Below w.heap.size w w1 → Ents b [5, 105] w1 aoe es) (ho : ∀ b w1, b ≤ w1.heap.size → w.heap.size ≤ b → Below w.heap.size w w1 → Ints b [5, 105] w1 aoo old) (hw : ∀ b w1, b ≤ w1.heap.size → w.heap.size ≤ b → Below w.heap.size w w1 → Ints b [5, 105] w1 aon new) (hS : Start w) :
    Calls Tryd.prog 16 #[.agg #[.int .i64 from', .int .i64 to', .int .i64 gen, .int .i64 kind, .int .i64 term, .int .i64 index, .int .i64 last, .int .i64 commit, .bool yes, .slice aot nt ct, .slice aoe ne ce, .slice aoo no co, .slice aon nn cn]] w fun e w' =>
      ∃ v, e = .returned (.tuple #[v, .int .i64 (((putMsg from' to' gen kind term index last commit yes terms es old new ([], 0)).2 : Nat) : Int)]) ∧ Own w.heap.size w' v (told (putMsg from' to' gen kind term index last commit yes terms es old new ([], 0))) ∧ Below w.heap.size w w' := by
  obtain ⟨w1, hw1⟩ : ∃ w1, w.alloc (.cells #[.int .i64 from', .int .i64 to', .int .i64 gen, .int .i64 kind, .int .i64 term, .int .i64 index, .int .i64 last, .int .i64 commit, .bool yes, .slice aot nt ct, .slice aoe ne ce, .slice aoo no co, .slice aon nn cn] 41) = w1 := ⟨_, rfl⟩
  have b1 : Below w.heap.size w w1 := by rw [← hw1]; exact (Below.refl _ w).alloc (Nat.le_refl _) _
  have hcall := encM from' to' gen kind term index last commit yes aot nt ct terms hnt aoe ne ce es hne hnm aoo aon no nn co cn old new hno hnn w1 (fun w2 hb2 => ht w1.heap.size w2 hb2.size b1.size (b1.trans (hb2.mono b1.size))) (fun w2 hb2 => he w1.heap.size w2 hb2.size b1.size (b1.trans (hb2.mono b1.size))) (fun w2 hb2 => ho w1.heap.size w2 hb2.size b1.size (b1.trans (hb2.mono b1.size))) (fun w2 hb2 => hw w1.heap.size w2 hb2.size b1.size (b1.trans (hb2.mono b1.size))) (hS.below b1)
  have S1 := hide (hS.below b1)
  have B1 := hide b1
  have HW1 := hide hw1
  obtain ⟨f, hf⟩ : ∃ f, putMsg from' to' gen kind term index last commit yes terms es old new ([], 0) = f := ⟨_, rfl⟩
  rw [hf] at hcall ⊢
  have HC := hide hcall
  clear b1 hw1 hS hf hcall ht he ho hw
  go_enter Tryd.func16, Tryd.ntmps16
  go_wp2_with fail
  rw [unhide HW1]
  refine (unhide HC).mono ?_
  rintro e w2 ⟨v, rfl, ho, hb⟩
  have HO := hide (ho.rebase (unhide B1).size)
  have B2 := hide ((unhide B1).trans (hb.mono (unhide B1).size))
  clear ho hb
  go_wp2
  go_ret2
  exact ⟨_, rfl, unhide HO, unhide B2⟩

set_option maxRecDepth 20000 in
set_option maxHeartbeats 1000000 in
theorem encodeConfig_any (aoo aon : Option Addr) (no nn co cn : Nat) (old new : List Int) (hno : old.length = no) (hnn : new.length = nn) (w : World) (ho : ∀ b w1, b ≤ w1.heap.size → w.heap.size ≤ b → Below w.heap.size w w1 → Ints b [5, 105] w1 aoo old) (hw : ∀ b w1, b ≤ w1.heap.size → w.heap.size ≤ b → Below w.heap.size w w1 → Ints b [5, 105] w1 aon new) (hS : Start w) :
    Calls Tryd.prog 18 #[.agg #[.slice aoo no co, .slice aon nn cn]] w fun e w' =>
      ∃ v, e = .returned (.tuple #[v, .int .i64 (((putConfig old new ([], 0)).2 : Nat) : Int)]) ∧ Own w.heap.size w' v (told (putConfig old new ([], 0))) ∧ Below w.heap.size w w' := by
  obtain ⟨w1, hw1⟩ : ∃ w1, w.alloc (.cells #[.slice aoo no co, .slice aon nn cn] 39) = w1 := ⟨_, rfl⟩
  have b1 : Below w.heap.size w w1 := by rw [← hw1]; exact (Below.refl _ w).alloc (Nat.le_refl _) _
  have hcall := encC aoo aon no nn co cn old new hno hnn w1 (fun w2 hb2 => ho w1.heap.size w2 hb2.size b1.size (b1.trans (hb2.mono b1.size))) (fun w2 hb2 => hw w1.heap.size w2 hb2.size b1.size (b1.trans (hb2.mono b1.size))) (hS.below b1)
  have S1 := hide (hS.below b1)
  have B1 := hide b1
  have HW1 := hide hw1
  obtain ⟨f, hf⟩ : ∃ f, putConfig old new ([], 0) = f := ⟨_, rfl⟩
  rw [hf] at hcall ⊢
  have HC := hide hcall
  clear b1 hw1 hS hf hcall ho hw
  go_enter Tryd.func18, Tryd.ntmps18
  go_wp2_with fail
  rw [unhide HW1]
  refine (unhide HC).mono ?_
  rintro e w2 ⟨v, rfl, ho, hb⟩
  have HO := hide (ho.rebase (unhide B1).size)
  have B2 := hide ((unhide B1).trans (hb.mono (unhide B1).size))
  clear ho hb
  go_wp2
  go_ret2
  exact ⟨_, rfl, unhide HO, unhide B2⟩
end Go.Proofs.YtojmnlbdhpledaaDoor
namespace Go.Proofs.YtojmnlbdhpledaaDoor
open Go.RowKit

theorem putRule_err (q : Nat) (n : Int) (s : List Nat × Nat) : (putRule q n s).2 = if s.2 ≠ 0 then s.2 else refuse q n := by
  unfold putRule
  by_cases h : s.2 ≠ 0
  · rw [if_pos h, if_pos h]
  · rw [if_neg h, if_neg h]
    by_cases h2 : refuse q n ≠ 0
    · rw [if_pos h2]
    · rw [if_neg h2]; simp at h2; simp [h2]
theorem putList_err (q : Nat) (ys : List Int) (s : List Nat × Nat) : (putList q ys s).2 = if s.2 ≠ 0 then s.2 else refuse q ys.length := by
  unfold putList
  by_cases h : s.2 = 0 ∧ refuse q ys.length = 0
  · rw [if_pos h, if_neg (by simp [h.1]), h.2]
  · rw [if_neg h]; exact putRule_err q _ s
theorem putText_err (t : ByteArray) (s : List Nat × Nat) : (putText t s).2 = if s.2 ≠ 0 then s.2 else refuse 4 t.size := by
  unfold putText
  by_cases h : s.2 = 0 ∧ refuse 4 t.size = 0
  · rw [if_pos h, if_neg (by simp [h.1]), h.2]
  · rw [if_neg h]; exact putRule_err 4 _ s
theorem putInts_err (ys : List Int) (s : List Nat × Nat) : (putInts ys s).2 = s.2 := rfl
/-- the first of some numbers that is not 0. -/
def firstOf : List Nat → Nat
  | [] => 0
  | x :: l => if x ≠ 0 then x else firstOf l
theorem putEntry_err (kind client seq : Int) (t : ByteArray) (ys : List Int) (to' : Int) (s : List Nat × Nat) : (putEntry kind client seq t ys to' s).2 = firstOf [s.2, refuse 0 kind, refuse 4 t.size, refuse 5 ys.length, refuse 1 to'] := by
  unfold putEntry
  rw [putRule_err, putList_err, putText_err, putInts_err, putRule_err]
  simp only [firstOf]
  by_cases h0 : s.2 = 0 <;> by_cases h1 : refuse 0 kind = 0 <;> by_cases h2 : refuse 4 (t.size : Int) = 0 <;> by_cases h3 : refuse 5 (ys.length : Int) = 0 <;> by_cases h4 : refuse 1 to' = 0 <;> simp [h0, h1, h2, h3, h4]
/-- an entry of zeros. -/
def zeroE : En := ⟨0, 0, 0, ByteArray.empty, [], 0⟩
theorem putE_zero (s : List Nat × Nat) : (putE zeroE s).2 = s.2 := by
  unfold putE zeroE
  rw [putEntry_err]
  have e : ∀ x, firstOf [x, refuse 0 0, refuse 4 (ByteArray.empty.size : Int), refuse 5 ((([] : List Int).length : Nat) : Int), refuse 1 0] = x := by
    intro x
    have h0 : refuse 0 0 = 0 := by decide
    have h1 : refuse 4 (ByteArray.empty.size : Int) = 0 := by decide
    have h2 : refuse 5 ((([] : List Int).length : Nat) : Int) = 0 := by decide
    have h3 : refuse 1 0 = 0 := by decide
    simp only [firstOf, h0, h1, h2, h3]
    by_cases hx : x = 0 <;> simp [hx]
  exact e s.2
theorem putEs_zero (n : Nat) : ∀ s : List Nat × Nat, (putEs (List.replicate n zeroE) s).2 = s.2 := by
  induction n with
  | zero => intro s; rfl
  | succ n ih => intro s; rw [List.replicate_succ]; show (putEs (List.replicate n zeroE) (putE zeroE s)).2 = _; rw [ih, putE_zero]
theorem putEntries_zero (n : Nat) (s : List Nat × Nat) : (putEntries (List.replicate n zeroE) s).2 = if s.2 ≠ 0 then s.2 else refuse 6 n := by
  unfold putEntries
  rw [List.length_replicate]
  by_cases h : s.2 = 0 ∧ refuse 6 n = 0
  · rw [if_pos h, if_neg (by simp [h.1]), putEs_zero, putRule_err, if_neg (by simp [h.1])]
  · rw [if_neg h]; exact putRule_err 6 _ s
theorem putMsg_err (kind : Int) (terms : List Int) (n : Nat) : (putMsg 0 0 0 kind 0 0 0 0 false terms (List.replicate n zeroE) [] [] ([], 0)).2 = firstOf [refuse 2 kind, refuse 6 terms.length, refuse 6 n] := by
  unfold putMsg putConfig
  rw [putList_err, putList_err, putEntries_zero, putList_err, putRule_err, putInts_err, putRule_err, putInts_err]
  have h3 : refuse 3 (bitOf false) = 0 := by decide
  have h5 : refuse 5 ((([] : List Int).length : Nat) : Int) = 0 := by decide
  rw [h3, h5]
  simp only [firstOf]
  by_cases h1 : refuse 2 kind = 0 <;> by_cases h2 : refuse 6 (terms.length : Int) = 0 <;> by_cases h4 : refuse 6 (n : Int) = 0 <;> simp [h1, h2, h4]
theorem putConfig_err (n : Nat) : (putConfig [] (List.replicate n 0) ([], 0)).2 = refuse 5 n := by
  unfold putConfig
  rw [putList_err, putList_err, List.length_replicate]
  have h5 : refuse 5 ((([] : List Int).length : Nat) : Int) = 0 := by decide
  rw [h5]; simp

/-- bytes as a string. -/
def str (bs : List Nat) : ByteArray := strOfNums (bs.map Int.ofNat)
theorem conv_str {w : World} {ao : Option Addr} {n cap : Nat} {bs : List Nat} (hb : Bytes w ao bs) (hn : bs.length = n) :
    (convert 27 9 (.slice ao n cap)).run Tryd.prog w = .ok (.string (str bs)) w := by
  subst hn
  cases ao with
  | none =>
    obtain rfl := hb.none_nil
    exact run_convert_bytes_nil w 27 5 Tryd.underlying27 Tryd.underlying5 _ _ 9 Tryd.underlying9
  | some a =>
    have hl : (loadCells a bs.length).run Tryd.prog w = .ok ((bs.map Int.ofNat).map (Value.int .u8)).toArray w := by
      have := run_loadCells_list (P := Tryd.prog) w a ((bs.map Int.ofNat).map (Value.int .u8)) (fun j v hj => hb.news j v (by simpa [u8s] using hj))
      simpa using this
    rw [run_convert_bytes_string w 27 9 5 _ _ cap Tryd.underlying27 Tryd.underlying5 Tryd.underlying9, run_bytesToString w _ _ cap (bs.map Int.ofNat) hl, foldl_push_bytes]
    simp [str, strOfNums, ByteArray.empty, ByteArray.emptyWithCapacity]
    rfl
theorem str_size (bs : List Nat) : (str bs).size = bs.length := by simp [str, strOfNums, ByteArray.size]
/-- zeros. -/
def zeros (n : Nat) : List Nat := List.replicate n 0
theorem zeros_cells (n : Nat) : (madeCells #[Value.int .u8 0] n).toList = u8s (zeros n) := by rw [toList_madeCells_one, zeros, u8s, List.map_replicate]; rfl
theorem zeros_at {w : World} {b n : Nat} {fr : Nat × Nat} (h : w.heap[b]? = some (.cells (madeCells #[Value.int .u8 0] n) 5 fr)) : Bytes w (some ⟨b, 0, none⟩) (zeros n) := by
  refine ⟨fun x hx => by have := List.eq_of_mem_replicate hx; omega, fun i hi => ⟨_, rfl, ?_⟩⟩
  rw [Addr.add_lit]
  simp only [World.cell?, h, Nat.zero_add]
  have e : (madeCells #[Value.int .u8 0] n)[i]? = (u8s (zeros n))[i]? := by rw [← zeros_cells]; simp
  rw [e, u8s, List.getElem?_map, List.getD_eq_getElem?_getD, List.getElem?_eq_getElem hi]; rfl
theorem Tryd.info3 : (Tryd.prog.info? 3).map (fun i => (i.zero, i.size, i.bytes)) = some (some (.int .i64 0), 1, 8) := by kernel_rfl
theorem make_bytes (n : Nat) (h : n ≤ 1000000) (w : World) : (Instr.makeSlice 27 (.int .i64 (n : Int)) (.int .i64 (n : Int))).run Tryd.prog w = .ok (.slice (some ⟨w.heap.size, 0, none⟩) n n) (w.alloc (.cells (madeCells #[.int .u8 0] n) 5)) :=
  run_make_row' 27 5 (.int .u8 0) 1 Tryd.underlying27 Tryd.info5 rfl .i64 .i64 n (by omega) (by omega) w
theorem make_ints (n : Nat) (h : n ≤ 1000000) (w : World) : (Instr.makeSlice 22 (.int .i64 (n : Int)) (.int .i64 (n : Int))).run Tryd.prog w = .ok (.slice (some ⟨w.heap.size, 0, none⟩) n n) (w.alloc (.cells (madeCells #[.int .i64 0] n) 3)) :=
  run_make_row' 22 3 (.int .i64 0) 8 Tryd.underlying22 Tryd.info3 rfl .i64 .i64 n (by omega) (by omega) w
/-- the cells of an entry of zeros. -/
def zcells : Array Value := #[.int .i64 0, .int .i64 0, .int .i64 0, .string ByteArray.empty, .slice none 0 0, .int .i64 0]
theorem Tryd.infoE : (Tryd.prog.info? 24).map (fun i => (i.zero, i.size, i.bytes)) = some (some (.agg zcells), 6, 72) := by kernel_rfl
theorem make_ents (n : Nat) (h : n ≤ 1000000) (w : World) : (Instr.makeSlice 37 (.int .i64 (n : Int)) (.int .i64 (n : Int))).run Tryd.prog w = .ok (.slice (some ⟨w.heap.size, 0, none⟩) n n) (w.alloc (.cells (madeCells zcells (n * 6)) 24)) := by
  obtain ⟨i, hi, hz0, hz1, hz2⟩ := info_parts Tryd.infoE
  have := run_make (P := Tryd.prog) w 37 24 i (.agg zcells) Tryd.underlying37 hi hz0 .i64 .i64 n n (by omega) (by omega) (by rw [hz2]; omega) (by omega)
  rw [hz1] at this
  simpa [Value.cells] using this
section
variable (w : World) (o1 o2 o3 : Obj)
theorem h3c : (((w.alloc o1).alloc o2).alloc o3).drew.heap[w.heap.size + 1 + 1]? = some o3 := by
  have h := heap_alloc_new ((w.alloc o1).alloc o2) o3
  rw [show ((w.alloc o1).alloc o2).heap.size = w.heap.size + 1 + 1 by simp] at h; exact h
theorem h3b : (((w.alloc o1).alloc o2).alloc o3).drew.heap[w.heap.size + 1]? = some o2 := by
  have h := heap_alloc_new (w.alloc o1) o2
  rw [show (w.alloc o1).heap.size = w.heap.size + 1 by simp] at h
  exact (Below.heap_alloc ((w.alloc o1).alloc o2) o3 (w.heap.size + 1) (by simp)).trans h
theorem h3a : (((w.alloc o1).alloc o2).alloc o3).drew.heap[w.heap.size]? = some o1 :=
  ((Below.heap_alloc ((w.alloc o1).alloc o2) o3 w.heap.size (by simp; omega)).trans (Below.heap_alloc (w.alloc o1) o2 w.heap.size (by simp))).trans (heap_alloc_new w o1)
theorem h3below : Below w.heap.size w (((w.alloc o1).alloc o2).alloc o3).drew :=
  ((((Below.refl _ w).alloc (Nat.le_refl _) o1).alloc (by simp) o2).alloc (by simp; omega) o3).drew
end
theorem blk_lt' {w : World} {p : Nat} {o : Obj} (h : w.heap[p]? = some o) : p < w.heap.size := by
  by_cases hp : p < w.heap.size
  · exact hp
  · rw [Array.getElem?_eq_none (by omega)] at h; cases h
theorem ints_cell {w : World} {b n : Nat} {fr : Nat × Nat} (h : w.heap[b]? = some (.cells (madeCells #[Value.int .i64 0] n) 3 fr)) : ∀ i, i < (List.replicate n (0 : Int)).length → ∃ a, some (⟨b, 0, none⟩ : Addr) = some a ∧ w.cell? (a.add i) = some (.int .i64 ((List.replicate n (0 : Int)).getD i 0)) := by
  intro i hi
  rw [List.length_replicate] at hi
  refine ⟨_, rfl, ?_⟩
  rw [Addr.add_lit, Nat.zero_add, cell_of_block h]
  have e : (madeCells #[Value.int .i64 0] n)[i]? = (List.replicate n (Value.int .i64 0))[i]? := by rw [← toList_madeCells_one]; simp
  rw [e, List.getElem?_replicate, if_pos hi, List.getD_eq_getElem?_getD, List.getElem?_replicate, if_pos hi]; rfl
theorem ints_zero {w : World} {b n base : Nat} {fr : Nat × Nat} (h : w.heap[b]? = some (.cells (madeCells #[Value.int .i64 0] n) 3 fr)) : Ints base [5, 105] w (some ⟨b, 0, none⟩) (List.replicate n 0) := by
  intro i hi
  obtain ⟨a, e, hc⟩ := ints_cell h i hi
  cases e
  exact ⟨_, rfl, hc, Or.inr ⟨_, _, _, h, by decide⟩⟩
theorem made_get (n i j : Nat) (hi : i < n) (hj : j < 6) : (madeCells zcells (n * 6))[i * 6 + j]? = zcells[j]? := by
  have h1 : i * 6 + j < n * 6 := by omega
  have h2 : (i * 6 + j) % 6 = j := by omega
  unfold madeCells
  rw [Array.getElem?_map, Array.getElem?_eq_getElem (by simpa using h1)]
  simp only [Array.getElem_range, Option.map_some]
  have hs : zcells.size = 6 := rfl
  rw [hs, h2, getElem!_pos zcells j (by rw [hs]; exact hj), Array.getElem?_eq_getElem (by rw [hs]; exact hj)]
theorem ents_zero {w : World} {b n base : Nat} {fr : Nat × Nat} (h : w.heap[b]? = some (.cells (madeCells zcells (n * 6)) 24 fr)) : Ents base [5, 105] w (some ⟨b, 0, none⟩) (List.replicate n zeroE) := by
  intro i hi
  rw [List.length_replicate] at hi
  have eg : (List.replicate n zeroE).getD i default = zeroE := by rw [List.getD_eq_getElem?_getD, List.getElem?_replicate, if_pos hi]; rfl
  have hc : ∀ j, j < 6 → w.cell? ⟨b, i * 6 + j, none⟩ = zcells[j]? := fun j hj => by rw [cell_of_block h]; exact made_get n i j hi hj
  rw [eg]
  refine ⟨b, 0, none, 0, rfl, ?_, ?_, ?_, ?_, ?_, ?_, ?_, by decide, Or.inr ⟨_, _, _, h, by decide⟩⟩
  · rw [Nat.zero_add]; exact hc 0 (by decide)
  · rw [Nat.zero_add]; exact hc 1 (by decide)
  · rw [Nat.zero_add]; exact hc 2 (by decide)
  · rw [Nat.zero_add]; exact hc 3 (by decide)
  · rw [Nat.zero_add]; exact hc 4 (by decide)
  · rw [Nat.zero_add]; exact hc 5 (by decide)
  · intro i hi; simp [zeroE] at hi
end Go.Proofs.YtojmnlbdhpledaaDoor
