/- wire.EncodeMsg, wire.EncodeConfig: contracts. -/
import Derived.Test.YtjcllplgiffmgaaDoorEncM
namespace Go.Proofs.YtjcllplgiffmgaaDoor
open Go.RowKit

set_option maxRecDepth 20000 in
set_option maxHeartbeats 1000000 in
theorem encodeMsg_any (from' to' gen kind term index last commit : Int) (yes : Bool) (aot : Option Addr) (nt ct : Nat) (terms : List Int) (hnt : terms.length = nt) (aoe : Option Addr) (ne ce : Nat) (es : List En) (hne : es.length = ne) (hnm : ne ≤ 9223372036854775807) (aoo aon : Option Addr) (no nn co cn : Nat) (old new : List Int) (hno : old.length = no) (hnn : new.length = nn) (w : World) (ht : ∀ b w1, b ≤ w1.heap.size → w.heap.size ≤ b → Below w.heap.size w w1 → Ints b [5, 105] w1 aot terms) (he : ∀ b w1, b ≤ w1.heap.size → w.heap.size ≤ b → Below w.heap.size w w1 → Ents b [5, 105] w1 aoe es) (ho : ∀ b w1, b ≤ w1.heap.size → w.heap.size ≤ b → Below w.heap.size w w1 → Ints b [5, 105] w1 aoo old) (hw : ∀ b w1, b ≤ w1.heap.size → w.heap.size ≤ b → Below w.heap.size w w1 → Ints b [5, 105] w1 aon new) (hS : Start w) :
    Calls Tryd.prog 16 #[.agg #[.int .i64 from', .int .i64 to', .int .i64 gen, .int .i64 kind, .int .i64 term, .int .i64 index, .int .i64 last, .int .i64 commit, .bool yes, .slice aot nt ct, .slice aoe ne ce, .slice aoo no co, .slice aon nn cn]] w fun e w' =>
      ∃ v, e = .returned (.tuple #[v, .int .i64 (((putMsg from' to' gen kind term index last commit yes terms es old new ([], 0)).2 : Nat) : Int)]) ∧ Own w.heap.size w' v (told (putMsg from' to' gen kind term index last commit yes terms es old new ([], 0))) ∧ Below w.heap.size w w' := by
  obtain ⟨w1, hw1⟩ : ∃ w1, w.alloc (.cells #[.int .i64 from', .int .i64 to', .int .i64 gen, .int .i64 kind, .int .i64 term, .int .i64 index, .int .i64 last, .int .i64 commit, .bool yes, .slice aot nt ct, .slice aoe ne ce, .slice aoo no co, .slice aon nn cn] 41) = w1 := ⟨_, rfl⟩
  have b1 : Below w.heap.size w w1 := by rw [← hw1]; exact (Below.refl _ w).alloc (Nat.le_refl _) _
  have hcall := encM from' to' gen kind term index last commit yes aot nt ct terms hnt aoe ne ce es hne hnm aoo aon no nn co cn old new hno hnn w1 (fun w2 hb2 => ht w1.heap.size w2 hb2.size b1.size (b1.trans (hb2.mono b1.size))) (fun w2 hb2 => he w1.heap.size w2 hb2.size b1.size (b1.trans (hb2.mono b1.size))) (fun w2 hb2 => ho w1.heap.size w2 hb2.size b1.size (b1.trans (hb2.mono b1.size))) (fun w2 hb2 => hw w1.heap.size w2 hb2.size b1.size (b1.trans (hb2.mono b1.size))) (hS.below b1)
  have S1 := hide (hS.below b1)
  have B1 := hide b1
  have HW1 := hide hw1
  obtain ⟨f, hf⟩ : ∃ f, putMsg from' to' gen kind term index last commit yes terms es old new ([], 0) = f := ⟨_, rfl⟩
  rw [hf] at hcall ⊢
  have HC := hide hcall
  clear b1 hw1 hS hf hcall ht he ho hw
  go_enter Tryd.func16, Tryd.ntmps16
  go_wp2_with fail
  rw [unhide HW1]
  refine (unhide HC).mono ?_
  rintro e w2 ⟨v, rfl, ho, hb⟩
  have HO := hide (ho.rebase (unhide B1).size)
  have B2 := hide ((unhide B1).trans (hb.mono (unhide B1).size))
  clear ho hb
  go_wp2
  go_ret2
  exact ⟨_, rfl, unhide HO, unhide B2⟩

set_option maxRecDepth 20000 in
set_option maxHeartbeats 1000000 in
theorem encodeConfig_any (aoo aon : Option Addr) (no nn co cn : Nat) (old new : List Int) (hno : old.length = no) (hnn : new.length = nn) (w : World) (ho : ∀ b w1, b ≤ w1.heap.size → w.heap.size ≤ b → Below w.heap.size w w1 → Ints b [5, 105] w1 aoo old) (hw : ∀ b w1, b ≤ w1.heap.size → w.heap.size ≤ b → Below w.heap.size w w1 → Ints b [5, 105] w1 aon new) (hS : Start w) :
    Calls Tryd.prog 18 #[.agg #[.slice aoo no co, .slice aon nn cn]] w fun e w' =>
      ∃ v, e = .returned (.tuple #[v, .int .i64 (((putConfig old new ([], 0)).2 : Nat) : Int)]) ∧ Own w.heap.size w' v (told (putConfig old new ([], 0))) ∧ Below w.heap.size w w' := by
  obtain ⟨w1, hw1⟩ : ∃ w1, w.alloc (.cells #[.slice aoo no co, .slice aon nn cn] 39) = w1 := ⟨_, rfl⟩
  have b1 : Below w.heap.size w w1 := by rw [← hw1]; exact (Below.refl _ w).alloc (Nat.le_refl _) _
  have hcall := encC aoo aon no nn co cn old new hno hnn w1 (fun w2 hb2 => ho w1.heap.size w2 hb2.size b1.size (b1.trans (hb2.mono b1.size))) (fun w2 hb2 => hw w1.heap.size w2 hb2.size b1.size (b1.trans (hb2.mono b1.size))) (hS.below b1)
  have S1 := hide (hS.below b1)
  have B1 := hide b1
  have HW1 := hide hw1
  obtain ⟨f, hf⟩ : ∃ f, putConfig old new ([], 0) = f := ⟨_, rfl⟩
  rw [hf] at hcall ⊢
  have HC := hide hcall
  clear b1 hw1 hS hf hcall ho hw
  go_enter Tryd.func18, Tryd.ntmps18
  go_wp2_with fail
  rw [unhide HW1]
  refine (unhide HC).mono ?_
  rintro e w2 ⟨v, rfl, ho, hb⟩
  have HO := hide (ho.rebase (unhide B1).size)
  have B2 := hide ((unhide B1).trans (hb.mono (unhide B1).size))
  clear ho hb
  go_wp2
  go_ret2
  exact ⟨_, rfl, unhide HO, unhide B2⟩
end Go.Proofs.YtjcllplgiffmgaaDoor
