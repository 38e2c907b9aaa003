/- synodallaw10.known: a contract; rows of entries that were just made. -/
import Derived.Test.YtmgdkbpbmngibaaHApp
import Derived.Test.YtmgdkbpbmngibaaHPut
import Derived.Test.YtmgdkbpbmngibaaHEntry
namespace Go.Proofs.Ytmgdkbpbmngibaa
open Go.RowKit Go.Maps

theorem flat6 : ∀ (es : List En) (i : Nat) (e : En) (j : Nat) (u : Value), es[i]? = some e → (e.cells (.slice none 0 0))[j]? = some u → (es.flatMap fun e => e.cells (.slice none 0 0))[i * 6 + j]? = some u
  | [], i, e, j, u, h, _ => by simp at h
  | x :: es, 0, e, j, u, h, hj => by
    simp only [List.getElem?_cons_zero, Option.some.injEq] at h
    subst h
    have hl : j < 6 := (List.getElem?_eq_some_iff.1 hj).1
    rw [List.flatMap_cons, List.getElem?_append_left (by show 0 * 6 + j < 6; omega), Nat.zero_mul, Nat.zero_add]; exact hj
  | x :: es, i + 1, e, j, u, h, hj => by
    rw [List.getElem?_cons_succ] at h
    rw [List.flatMap_cons, List.getElem?_append_right (by show 6 ≤ (i + 1) * 6 + j; omega), show (i + 1) * 6 + j - (x.cells (.slice none 0 0)).length = i * 6 + j by show (i + 1) * 6 + j - 6 = _; omega]
    exact flat6 es i e j u h hj
/-- entries without members that were just laid. -/
theorem es_lit (w : World) (es : List En) (hm : ∀ e ∈ es, e.ms = []) (cs : Array Value) (hc : cs.toList = es.flatMap fun e => e.cells (.slice none 0 0)) : EsR (fun k => k = w.heap.size) (w.alloc (.cells cs 60)) (some ⟨w.heap.size, 0, none⟩) es := fun i e hi => by
  have h0 := hm e (List.mem_of_getElem? hi)
  refine ⟨w.heap.size, 0, none, 0, rfl, rfl, fun j u hj => ?_, by rw [h0]; exact InF.nil _ _ _, by rw [h0]; simp⟩
  rw [h0] at hj
  rw [cell_of_block (box_at w _), ← Array.getElem?_toList, hc, Nat.zero_add]
  exact flat6 es i e j u hi hj
theorem ints_lit (w : World) (ys : List Int) (cs : Array Value) (hc : cs.toList = i64s ys) : InF (fun k => k = w.heap.size) (w.alloc (.cells cs 3)) (some ⟨w.heap.size, 0, none⟩) ys := fun i hi => by
  refine ⟨_, rfl, rfl, ?_⟩
  rw [Addr.add_lit, cell_of_block (box_at w _), ← Array.getElem?_toList, hc, i64s, List.getElem?_map, Nat.zero_add, List.getElem?_eq_getElem hi, List.getD_eq_getElem?_getD, List.getElem?_eq_getElem hi]; rfl
/-- an entry of numbers alone. -/
def enOf (k c s : Int) : En := ⟨k, c, s, ⟨#[]⟩, [], 0⟩

set_option maxRecDepth 20000 in
set_option maxHeartbeats 4000000 in
theorem hknown_any (w : World) : Calls Try.prog 9 #[] w fun e w' => e = .returned (.bool true) ∧ Below w.heap.size w w' := by
  have NE := hide (hnew_any 0 w)
  go_enter Try.func9, Try.ntmps9
  go_wp2_with fail
  refine (unhide NE).mono ?_
  rintro x w1 ⟨rfl, h1, b1⟩
  obtain ⟨W1, hW1⟩ : ∃ W1, w1.alloc (.cells #[.int .i64 0, .int .i64 1, .int .i64 0, .string ⟨#[]⟩, .slice none 0 0, .int .i64 0, .int .i64 0, .int .i64 2, .int .i64 0, .string ⟨#[]⟩, .slice none 0 0, .int .i64 0] 60) = W1 := ⟨_, rfl⟩
  have bW1 : Below w1.heap.size w1 W1 := by rw [← hW1]; exact (Below.refl _ w1).alloc (Nat.le_refl _) _
  have sW1 : w1.heap.size < W1.heap.size := by rw [← hW1]; simp
  have hE1 : EsR (fun k => k = w1.heap.size) W1 (some ⟨w1.heap.size, 0, none⟩) [enOf 0 1 0, enOf 0 2 0] := by
    rw [← hW1]; exact es_lit w1 _ (fun e he => by simp at he; rcases he with rfl | rfl <;> rfl) _ rfl
  have AP := hide (append_any (h1.below bW1) ⟨by decide, by decide, by decide⟩ 2 (some ⟨w1.heap.size, 0, none⟩) 2 2 [enOf 0 1 0, enOf 0 2 0] rfl (by decide) hE1 (fun k hk x => by have := h1.lt k x; omega) (fun k hk => by rw [hk]; exact sW1))
  have HW1 := hide hW1
  have B1 := hide (below_far b1 bW1)
  clear NE h1 b1 bW1 sW1 hE1 hW1
  go_wp2_with fail
  rw [unhide HW1]
  refine (unhide AP).mono ?_
  rintro x w2 ⟨rfl, h2, k2⟩
  have h2' : Hs (News (fun k => k = w.heap.size) W1 w2) w2 w.heap.size 0 [(2, enOf 0 1 0), (2, enOf 0 2 0)] := h2
  have b2 : Below w.heap.size w w2 := (unhide B1).trans (k2.below (fun k hk => by rw [hk]; exact Nat.le_refl _) (unhide B1).size)
  obtain ⟨W2, hW2⟩ : ∃ W2, w2.alloc (.cells #[.int .i64 3] 3) = W2 := ⟨_, rfl⟩
  obtain ⟨W3, hW3⟩ : ∃ W3, W2.alloc (.cells #[.int .i64 0, .int .i64 3, .int .i64 0, .string ⟨#[]⟩, .slice none 0 0, .int .i64 0] 60) = W3 := ⟨_, rfl⟩
  have s2 : W2.heap.size = w2.heap.size + 1 := by rw [← hW2]; simp
  have bW2 : Below w2.heap.size w2 W2 := by rw [← hW2]; exact (Below.refl _ w2).alloc (Nat.le_refl _) _
  have bW3 : Below W2.heap.size W2 W3 := by rw [← hW3]; exact (Below.refl _ W2).alloc (Nat.le_refl _) _
  have hI : InF (fun k => w2.heap.size ≤ k) W3 (some ⟨w2.heap.size, 0, none⟩) [3] := (InF.below (by rw [← hW2]; exact ints_lit w2 [3] _ rfl) bW3).mono (fun k hk => by rw [hk]; exact Nat.le_refl _)
  have hE2 : EsR (fun k => w2.heap.size ≤ k) W3 (some ⟨w2.heap.size + 1, 0, none⟩) [enOf 0 3 0] := by
    have := es_lit W2 [enOf 0 3 0] (fun e he => by simp at he; rw [he]; rfl) #[.int .i64 0, .int .i64 3, .int .i64 0, .string ⟨#[]⟩, .slice none 0 0, .int .i64 0] rfl
    rw [hW3, s2] at this
    exact this.mono (fun k hk => by rw [hk]; omega)
  have PU := hide (put_any (h2'.below (below_far bW2 bW3)) ⟨by decide, by decide, by decide⟩ (by decide) 1 2 (some ⟨w2.heap.size, 0, none⟩) 1 1 [3] rfl (by decide) hI (some ⟨w2.heap.size + 1, 0, none⟩) 1 1 [enOf 0 3 0] rfl (by decide) hE2 (fun k hk x => by have := h2'.lt k x; omega))
  have HW3 : Hid ((w2.alloc (.cells #[.int .i64 3] 3)).alloc (.cells #[.int .i64 0, .int .i64 3, .int .i64 0, .string ⟨#[]⟩, .slice none 0 0, .int .i64 0] 60) = W3) := by rw [hW2]; exact hW3
  have B3 := hide (below_far b2 (below_far bW2 bW3))
  have LB : Hid (∀ k, News (fun k => k = w.heap.size) W1 w2 k → w.heap.size ≤ k) := fun k hk => hk.elim (fun e => by rw [e]; exact Nat.le_refl _) (fun y => Nat.le_trans (unhide B1).size y.1)
  clear AP h2 h2' k2 b2 bW2 bW3 hI hE2 hW2 hW3 s2 HW1
  go_wp2_with fail
  rw [unhide HW3]
  refine (unhide PU).mono ?_
  rintro x w4 ⟨rfl, h4, k4⟩
  have h4' : Hs (News (News (fun k => k = w.heap.size) W1 w2) W3 w4) w4 w.heap.size 0 [(2, enOf 0 1 0), (3, enOf 0 3 0)] := h4
  have b4 : Below w.heap.size w w4 := (unhide B3).trans (k4.below (unhide LB) (unhide B3).size)
  have EN := hide (entry_any h4' ⟨by decide, by decide, by decide⟩ 2)
  have LA := hide (fun Y (hY : Below w4.heap.size w4 Y) => last_any (h4'.below hY) ⟨by decide, by decide, by decide⟩)
  have TE := hide (fun Y (hY : Below w4.heap.size w4 Y) => term_any (h4'.below hY) ⟨by decide, by decide, by decide⟩ 2)
  rw [show entOf 0 [(2, enOf 0 1 0), (3, enOf 0 3 0)] 2 = enOf 0 3 0 from rfl, show (rowAt 0 [(2, enOf 0 1 0), (3, enOf 0 3 0)] 2).isSome = true from rfl] at EN
  rw [show termOf 0 [(2, enOf 0 1 0), (3, enOf 0 3 0)] 2 = 3 from rfl] at TE
  rw [show (0 : Int) + (([(2, enOf 0 1 0), (3, enOf 0 3 0)] : List Rw).length : Int) = 2 from rfl] at LA
  simp only [enOf] at EN
  have B4 := hide b4
  clear PU h4 h4' k4 b4 HW3 B3 LB
  go_wp2_with fail
  refine (unhide EN).mono ?_
  rintro x w5 ⟨mv, rfl, o5, b5⟩
  obtain ⟨mo, mc, rfl, -⟩ := o5.slice
  obtain ⟨W5, hW5⟩ : ∃ W5, w5.alloc (.cells #[.int .i64 0, .int .i64 3, .int .i64 0, .string ⟨#[]⟩, .slice mo ([] : List Int).length mc, .int .i64 0] 60) = W5 := ⟨_, rfl⟩
  have bW5 : Below w5.heap.size w5 W5 := by rw [← hW5]; exact (Below.refl _ w5).alloc (Nat.le_refl _) _
  have c1 : W5.cell? ⟨w5.heap.size, 1, none⟩ = some (.int .i64 3) := by rw [← hW5]; exact (cell_of_block (box_at w5 _)).trans rfl
  have q5 := below_far b5 bW5
  have L5 := hide (unhide LA W5 q5)
  have Q5 := hide q5
  have HW5 := hide hW5
  have B5 := hide (below_far (unhide B4) q5)
  clear o5 b5 bW5 hW5 q5 LA EN
  go_upto_region 7 with fail
  rw [show ([] : List Int).length = 0 from rfl] at HW5
  rw [unhide HW5]
  go_wp2_with fail
  refine (unhide L5).mono ?_
  rintro x w6 ⟨rfl, b6⟩
  have T6 := hide (unhide TE w6 (below_far (unhide Q5) b6))
  have B6 := hide (below_far (unhide B5) b6)
  clear b6 L5
  go_wp2_with fail
  refine (unhide T6).mono ?_
  rintro x w7 ⟨rfl, b7⟩
  have B7 := hide (below_far (unhide B6) b7)
  clear b7 T6
  go_wp2
  go_ret
  exact ⟨rfl, unhide B7⟩
end Go.Proofs.Ytmgdkbpbmngibaa
