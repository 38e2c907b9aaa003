/- conf.Members, In: contracts. -/
import Derived.Test.YtjcidihcmbenhaaKPlain
namespace Go.Proofs.Ytjcidihcmbenhaa
open Go.RowKit

theorem heap_lt {w : World} {k : Nat} {o : Obj} (h : w.heap[k]? = some o) : k < w.heap.size := by
  by_cases hh : k < w.heap.size
  · exact hh
  · rw [Array.getElem?_eq_none (by omega)] at h; cases h
theorem boxed (w : World) (x y : Value) : ∃ W, w.alloc (.cells #[x, y] 26) = W ∧ Below w.heap.size w W ∧ W.heap[w.heap.size]? = some (.cells #[x, y] 26 (0, 0)) ∧ W.heap.size = w.heap.size + 1 :=
  ⟨_, rfl, (Below.refl _ w).alloc (Nat.le_refl _) _, box_at _ _, by simp⟩
theorem Below.stay {w w' : World} (h : Below w.heap.size w w') {k : Nat} {o : Obj} (hk : w.heap[k]? = some o) : w'.heap[k]? = some o := (h.block k (heap_lt hk)).trans hk
theorem wr_nat (n : Nat) (h : n ≤ 1000000) : IntKind.i64.wrap (n : Int) = (n : Int) := IntWalk.i64_in _ (by omega)

theorem lies_two {w : World} {ao an : Option Addr} {no nn co cn : Nat} {old new : List Int} (ho : old.length = no) (hn : new.length = nn) (h1 : IntsR w ao old) (h2 : IntsR w an new) :
    Lies (w.alloc (.cells #[.slice ao no co, .slice an nn cn] 24)) ⟨w.heap.size, 0, none⟩ [(.slice ao no co, old), (.slice an nn cn, new)] := fun i p hp => by
  match i, hp with
  | 0, hp =>
    simp at hp; subst hp
    exact ⟨news_at (W := w) (cs := #[.slice ao no co, .slice an nn cn]) (t := 24) 0 _ rfl, ao, no, co, rfl, ho, h1.below ((Below.refl _ w).alloc (Nat.le_refl _) _)⟩
  | 1, hp =>
    simp at hp; subst hp
    exact ⟨news_at (W := w) (cs := #[.slice ao no co, .slice an nn cn]) (t := 24) 1 _ rfl, an, nn, cn, rfl, hn, h2.below ((Below.refl _ w).alloc (Nat.le_refl _) _)⟩
  | i + 2, hp => simp at hp

set_option maxHeartbeats 1000000 in
theorem members_any (ao an : Option Addr) (no nn co cn : Nat) (old new : List Int) (hno : old.length = no) (hnn : new.length = nn) (hlo : no ≤ 400000) (hln : nn ≤ 400000) (w : World) (ho : IntsR w ao old) (hw : IntsR w an new) :
    Calls Try.prog 25 #[.agg #[.slice ao no co, .slice an nn cn]] w fun e w' => ∃ am m cm, e = .returned (.slice am m cm) ∧ (ris (old ++ new)).length = m ∧ m ≤ cm ∧ m ≤ 1000000 ∧ Fr w' am (ris (old ++ new)) ∧ Below w.heap.size w w' := by
  obtain ⟨W, hW, bW, xW, sW⟩ := boxed w (.slice ao no co) (.slice an nn cn)
  obtain ⟨W2, hW2⟩ : ∃ W2, W.alloc (.cells #[.slice ao no co, .slice an nn cn] 24) = W2 := ⟨_, rfl⟩
  have b2 : Below W.heap.size W W2 := by rw [← hW2]; exact (Below.refl _ W).alloc (Nat.le_refl _) _
  have RS := hide (rising_any ⟨w.heap.size + 1, 0, none⟩ 2 2 [(.slice ao no co, old), (.slice an nn cn, new)] rfl (by simp; omega) (by omega) W2 (by rw [← hW2, ← sW]; exact lies_two hno hnn (ho.below bW) (hw.below bW)))
  simp only [List.map_cons, List.map_nil, List.flatten_cons, List.flatten_nil, List.append_nil] at RS
  have HW : Hid ((w.alloc (.cells #[.slice ao no co, .slice an nn cn] 26)).alloc (.cells #[.slice ao no co, .slice an nn cn] 24) = W2) := by rw [hW]; exact hW2
  have B2 := hide (bW.trans (b2.mono bW.size))
  clear hW bW xW sW hW2 b2 ho hw hno hnn
  go_enter Try.func25, Try.ntmps25
  go_wp2_with fail
  rw [unhide HW]
  refine (unhide RS).mono ?_
  rintro e w3 ⟨am, m, cm, rfl, h1, h2, h3, h4, b3⟩
  have B3 := hide ((unhide B2).trans (b3.mono (unhide B2).size))
  have H1 := hide h1
  have H4 := hide h4
  clear b3 h1 h4 RS
  go_wp2
  go_ret
  exact ⟨am, m, cm, rfl, unhide H1, h2, h3, unhide H4, unhide B3⟩

theorem contains_fr (ao : Option Addr) (n c : Nat) (xs : List Int) (hn : xs.length = n) (hl : n ≤ 1000000) (x : Int) (w : World) (h : Fr w ao xs) :
    Calls Try.prog 48 #[.slice ao n c, .int .i64 x] w fun e w' => e = .returned (.bool (xs.contains x)) ∧ Below w.heap.size w w' := by
  rcases h.at with rfl | ⟨b, off, rfl, hc⟩
  · obtain rfl : n = 0 := hn.symm
    refine (AnyG.slices_Contains_int_empty Try.contA ao c x w).mono ?_
    rintro e w' ⟨rfl, rfl⟩
    exact ⟨rfl, Below.refl _ _⟩
  · refine (AnyG.slices_Contains_int Try.contA b off n c xs x w (by omega) (by omega) hc).mono ?_
    rintro e w' ⟨rfl, rfl⟩
    rw [List.take_of_length_le (by omega)]
    exact ⟨rfl, Below.refl _ _⟩

def inOf (old new : List Int) (x : Int) : Bool := old.contains x || new.contains x
set_option maxHeartbeats 1000000 in
theorem in_any (ao an : Option Addr) (no nn co cn : Nat) (old new : List Int) (hno : old.length = no) (hnn : new.length = nn) (hlo : no ≤ 1000000) (hln : nn ≤ 1000000) (x : Int) (w : World) (ho : Fr w ao old) (hw : Fr w an new) :
    Calls Try.prog 36 #[.agg #[.slice ao no co, .slice an nn cn], .int .i64 x] w fun e w' => e = .returned (.bool (inOf old new x)) ∧ Below w.heap.size w w' := by
  obtain ⟨W, hW, bW, xW, _⟩ := boxed w (.slice ao no co) (.slice an nn cn)
  have W0 := hide (contains_fr ao no co old hno hlo x W (ho.below bW))
  have W1 := hide (fun (Y : World) (h : Below W.heap.size W Y) => contains_fr an nn cn new hnn hln x Y ((hw.below bW).below h))
  obtain ⟨R, hR⟩ : ∃ R, inOf old new x = R := ⟨_, rfl⟩
  rw [hR]
  obtain ⟨r0, h0⟩ : ∃ r0, old.contains x = r0 := ⟨_, rfl⟩
  obtain ⟨r1, h1⟩ : ∃ r1, new.contains x = r1 := ⟨_, rfl⟩
  have HR : Hid ((r0 || r1) = R) := by
    show _ = _
    rw [← hR, ← h0, ← h1]; rfl
  rw [h0] at W0
  rw [h1] at W1
  have HW := hide hW
  have BW := hide bW
  have XW := hide xW
  clear hW bW xW hR h0 h1 ho hw hno hnn
  go_enter Try.func36, Try.ntmps36
  go_wp2_with fail
  rw [unhide HW]
  refine (unhide W0).mono ?_
  rintro e w1 ⟨rfl, b1⟩
  have B1 := hide ((unhide BW).trans (b1.mono (unhide BW).size))
  obtain ⟨c0, c1⟩ := two_cells (Below.stay b1 (unhide XW))
  have W2 := hide (unhide W1 _ b1)
  clear b1 W0 W1 HW
  cases r0
  · obtain rfl : r1 = R := unhide HR
    clear HR
    go_wp2_with fail
    refine (unhide W2).mono ?_
    rintro e w2 ⟨rfl, b2⟩
    have B2 := hide ((unhide B1).trans (b2.mono (unhide B1).size))
    clear b2 W2
    go_wp2
    go_ret
    exact ⟨rfl, unhide B2⟩
  · obtain rfl : true = R := unhide HR
    clear HR
    go_wp2
    go_ret
    exact ⟨rfl, unhide B1⟩
end Go.Proofs.Ytjcidihcmbenhaa
