/- The walk of WireCuts. -/
import Derived.Test.YtjcllplgiffmgaaDoorCutsH
import Derived.Test.YtjcllplgiffmgaaDoorCutsF
import Derived.Deep.DeepCutAuto
import Derived.Deep.RegionWith
import Derived.Deep.CutBlock
namespace Go.Proofs.YtjcllplgiffmgaaDoor
open Go.RowKit

theorem below_next {w x x' : World} (h : Below w.heap.size w x) (hb : Below x.heap.size x x') : Below w.heap.size w x' := h.trans (hb.mono h.size)
/-- what region 5 leaves. -/
theorem both_of {w y W2 : World} {b : Nat} {x0 x1 x2 x3 x4 x5 x6 x7 : Int} {y8 : Bool} {aot aoo aon aol ao : Option Addr} {nt ct kl cl no co nn cn n cap : Nat} {ts os ns ms : List Int} {es : List En} {k c q to' : Int} {t : ByteArray} {vs : List Value}
    (hb : w.heap.size = b) (i1 : IntsAt w aot nt ct ts) (i3 : IntsAt w aoo no co os) (i4 : IntsAt w aon nn cn ns) (i5 : IntsAt w ao n cap ms) (ht : t.size ≤ maxLen)
    (hk : ((es.take 64).map goodE).length = kl) (hl : kl ≤ cl ∧ cl ≤ maxLen ∧ (aol = none → cl = 0)) (hB : Below w.heap.size w y) {base : Nat} (hbase : b + 2 ≤ base) (ho : y.ownsRow base 24 6 (.slice aol kl cl) kl vs) (h6 : Six w vs ((es.take 64).map goodE))
    (hs : Same b y W2) (hm : W2.heap[b]? = some (.cells #[.int .i64 x0, .int .i64 x1, .int .i64 x2, .int .i64 (1 + x3 % 15), .int .i64 x4, .int .i64 x5, .int .i64 x6, .int .i64 x7, .bool y8, .slice aot (min nt 64) ct, .slice aol kl cl, .slice aoo (min no 9) co, .slice aon (min nn 9) cn] 41 (0, 0)))
    (he : W2.heap[b + 1]? = some (.cells #[.int .i64 (k % 5), .int .i64 c, .int .i64 q, .string (goodT t), .slice ao (min n 9) cap, .int .i64 (to' % 3)] 24 (0, 0))) : BothAt W2 b := by
  have e1 : (ts.take 64).length = min nt 64 := ((i1.take 64).len)
  have e3 : (os.take 9).length = min no 9 := ((i3.take 9).len)
  have e4 : (ns.take 9).length = min nn 9 := ((i4.take 9).len)
  have e5 : (ms.take 9).length = min n 9 := ((i5.take 9).len)
  have hg := goodE_ok ⟨k, c, q, t, ms, to'⟩
  refine ⟨⟨⟨x0, x1, x2, 1 + x3 % 15, x4, x5, x6, x7, y8, ts.take 64, (es.take 64).map goodE, os.take 9, ns.take 9⟩, aot, aol, aoo, aon, ct, cl, co, cn, ?_⟩, ⟨goodE ⟨k, c, q, t, ms, to'⟩, ao, cap, ?_⟩⟩
  · refine ⟨by simp only [e1, e3, e4, hk]; exact hm, ⟨kind_ok _, ?_, ?_, ?_, ?_, ?_⟩, ⟨by simp only [hk]; exact hl.1, hl.2⟩, ?_, ?_, ?_, ?_⟩
    · simp only [e1]; exact len_ok6 (by omega)
    · simp only [List.length_map, List.length_take]; exact len_ok6 (by omega)
    · simp only [e3]; exact len_ok5 (by omega)
    · simp only [e4]; exact len_ok5 (by omega)
    · intro e hx
      obtain ⟨e', _, rfl⟩ := List.mem_map.1 hx
      exact goodE_ok e'
    · intro x hx
      have := (i1.take 64).same (by omega) hB (hs.trans hx)
      simp only [e1]; exact this
    · intro x hx
      exact six_same h6 hk (by omega) hbase hB ho (hs.trans hx)
    · intro x hx
      have := (i3.take 9).same (by omega) hB (hs.trans hx)
      simp only [e3]; exact this
    · intro x hx
      have := (i4.take 9).same (by omega) hB (hs.trans hx)
      simp only [e4]; exact this
  · refine ⟨by simp only [goodE, e5]; exact he, hg, goodT_le _ ht, ?_⟩
    intro x hx
    have := (i5.take 9).same (by omega) hB (hs.trans hx)
    simp only [goodE, e5]; exact this

/-- region 5, whole. -/
theorem both_fin {w y W2 : World} {b : Nat} {x0 x1 x2 x3 x4 x5 x6 x7 : Int} {y8 : Bool} {aot aoe aoo aon aol ao : Option Addr} {nt ct ne ce kl cl no co nn cn n cap : Nat} {ts os ns ms : List Int} {es : List En} {k c q to' : Int} {t : ByteArray} {vs : List Value}
    (hb : w.heap.size = b) (i1 : IntsAt w aot nt ct ts) (i3 : IntsAt w aoo no co os) (i4 : IntsAt w aon nn cn ns) (i5 : IntsAt w ao n cap ms) (ht : t.size ≤ maxLen)
    (hk : ((es.take 64).map goodE).length = kl) (hl : kl ≤ cl ∧ cl ≤ maxLen ∧ (aol = none → cl = 0)) (hB : Below w.heap.size w y) {base : Nat} (hbase : b + 2 ≤ base) (ho : y.ownsRow base 24 6 (.slice aol kl cl) kl vs) (h6 : Six w vs ((es.take 64).map goodE))
    (hm : y.heap[b]? = some (.cells #[.int .i64 x0, .int .i64 x1, .int .i64 x2, .int .i64 x3, .int .i64 x4, .int .i64 x5, .int .i64 x6, .int .i64 x7, .bool y8, .slice aot nt ct, .slice aoe ne ce, .slice aoo no co, .slice aon nn cn] 41 (0, 0))) (he : y.heap[b + 1]? = some (.cells #[.int .i64 k, .int .i64 c, .int .i64 q, .string t, .slice ao n cap, .int .i64 to'] 24 (0, 0))) (hW : W2 = (((((((((((((((((((y.setCell ⟨b, 0, none⟩ (.int .i64 x0)).setCell ⟨b, 1, none⟩ (.int .i64 x1)).setCell ⟨b, 2, none⟩ (.int .i64 x2)).setCell ⟨b, 3, none⟩ (.int .i64 (1 + x3 % 15))).setCell ⟨b, 4, none⟩ (.int .i64 x4)).setCell ⟨b, 5, none⟩ (.int .i64 x5)).setCell ⟨b, 6, none⟩ (.int .i64 x6)).setCell ⟨b, 7, none⟩ (.int .i64 x7)).setCell ⟨b, 8, none⟩ (.bool y8)).setCell ⟨b, 9, none⟩ (.slice aot (min nt 64) ct)).setCell ⟨b, 10, none⟩ (.slice aol kl cl)).setCell ⟨b, 11, none⟩ (.slice aoo (min no 9) co)).setCell ⟨b, 12, none⟩ (.slice aon (min nn 9) cn)).setCell ⟨b + 1, 0, none⟩ (.int .i64 (k % 5))).setCell ⟨b + 1, 1, none⟩ (.int .i64 c)).setCell ⟨b + 1, 2, none⟩ (.int .i64 q)).setCell ⟨b + 1, 3, none⟩ (.string (goodT t))).setCell ⟨b + 1, 4, none⟩ (.slice ao (min n 9) cap)).setCell ⟨b + 1, 5, none⟩ (.int .i64 (to' % 3)))) : BothAt W2 b ∧ Below w.heap.size w W2 := by
  obtain ⟨W1, hW1⟩ : ∃ W1, W1 = (((((((((((((y.setCell ⟨b, 0, none⟩ (.int .i64 x0)).setCell ⟨b, 1, none⟩ (.int .i64 x1)).setCell ⟨b, 2, none⟩ (.int .i64 x2)).setCell ⟨b, 3, none⟩ (.int .i64 (1 + x3 % 15))).setCell ⟨b, 4, none⟩ (.int .i64 x4)).setCell ⟨b, 5, none⟩ (.int .i64 x5)).setCell ⟨b, 6, none⟩ (.int .i64 x6)).setCell ⟨b, 7, none⟩ (.int .i64 x7)).setCell ⟨b, 8, none⟩ (.bool y8)).setCell ⟨b, 9, none⟩ (.slice aot (min nt 64) ct)).setCell ⟨b, 10, none⟩ (.slice aol kl cl)).setCell ⟨b, 11, none⟩ (.slice aoo (min no 9) co)).setCell ⟨b, 12, none⟩ (.slice aon (min nn 9) cn)) := ⟨_, rfl⟩
  rw [← hW1] at hW
  obtain ⟨m1, k1⟩ := chain13 hm hW1
  have e1 := (k1.2 _ (heap_lt he) (by omega)).trans he
  obtain ⟨e2, k2⟩ := chain6 e1 hW
  have m2 := (k2.2 _ (heap_lt m1) (by omega)).trans m1
  exact ⟨both_of hb i1 i3 i4 i5 ht hk hl hB hbase ho h6 ((Same.kept k1 (Or.inl rfl)).trans (Same.kept k2 (Or.inr rfl))) m2 e2, hB.trans (by rw [hb]; exact k1.1.trans (k2.1.mono (Nat.le_succ _)))⟩

set_option maxRecDepth 20000 in
set_option maxHeartbeats 8000000 in
theorem cuts_walk (x0 x1 x2 x3 x4 x5 x6 x7 : Int) (y : Bool) (aot aoe aoo aon : Option Addr) (nt ct ne ce no co nn cn : Nat) (ts : List Int) (es : List En) (os ns : List Int) (k c q to' : Int) (t : ByteArray) (ao : Option Addr) (n cap : Nat) (ms : List Int) (w : World)
    (i1 : IntsAt w aot nt ct ts) (i2 : es.length = ne ∧ ne ≤ ce ∧ ce ≤ maxLen ∧ (aoe = none → ce = 0) ∧ EntsAt w aoe es) (i3 : IntsAt w aoo no co os) (i4 : IntsAt w aon nn cn ns) (i5 : IntsAt w ao n cap ms) (ht : t.size ≤ maxLen) (hS : Start w) :
    Calls Tryd.prog 6 #[.agg #[.int .i64 x0, .int .i64 x1, .int .i64 x2, .int .i64 x3, .int .i64 x4, .int .i64 x5, .int .i64 x6, .int .i64 x7, .bool y, .slice aot nt ct, .slice aoe ne ce, .slice aoo no co, .slice aon nn cn], .agg #[.int .i64 k, .int .i64 c, .int .i64 q, .string t, .slice ao n cap, .int .i64 to']] w fun e w' => e = .returned (.bool true) ∧ Below w.heap.size w w' := by
  obtain ⟨hne, l2, l2', u2, he⟩ := i2
  obtain ⟨W, hW⟩ : ∃ W, (w.alloc (.cells #[.int .i64 x0, .int .i64 x1, .int .i64 x2, .int .i64 x3, .int .i64 x4, .int .i64 x5, .int .i64 x6, .int .i64 x7, .bool y, .slice aot nt ct, .slice aoe ne ce, .slice aoo no co, .slice aon nn cn] 41)).alloc (.cells #[.int .i64 k, .int .i64 c, .int .i64 q, .string t, .slice ao n cap, .int .i64 to'] 24) = W := ⟨_, rfl⟩
  have bW : Below w.heap.size w W := by rw [← hW]; exact ((Below.refl _ w).alloc (Nat.le_refl _) _).alloc (by simp) _
  have hbm : W.heap[w.heap.size]? = some (.cells #[.int .i64 x0, .int .i64 x1, .int .i64 x2, .int .i64 x3, .int .i64 x4, .int .i64 x5, .int .i64 x6, .int .i64 x7, .bool y, .slice aot nt ct, .slice aoe ne ce, .slice aoo no co, .slice aon nn cn] 41 (0, 0)) := by rw [← hW]; exact (Below.heap_alloc _ _ _ (by simp)).trans (heap_alloc_new _ _)
  have hbe : W.heap[w.heap.size + 1]? = some (.cells #[.int .i64 k, .int .i64 c, .int .i64 q, .string t, .slice ao n cap, .int .i64 to'] 24 (0, 0)) := by
    rw [← hW]
    have h := heap_alloc_new (w.alloc (.cells #[.int .i64 x0, .int .i64 x1, .int .i64 x2, .int .i64 x3, .int .i64 x4, .int .i64 x5, .int .i64 x6, .int .i64 x7, .bool y, .slice aot nt ct, .slice aoe ne ce, .slice aoo no co, .slice aon nn cn] 41)) (.cells #[.int .i64 k, .int .i64 c, .int .i64 q, .string t, .slice ao n cap, .int .i64 to'] 24)
    simpa using h
  have zW : w.heap.size + 2 ≤ W.heap.size := by rw [← hW]; simp
  have GM := hide (fun w1 (b1 : Below w.heap.size w w1) => goodMsg_any x0 x1 x2 x3 x4 x5 x6 x7 y aot aoe aoo aon nt ct ne ce no co nn cn es hne i1.room i1.big (Nat.le_trans l2 l2') i3.room i3.big i4.room i4.big i1.nul i3.nul i4.nul w1 w b1 he)
  have GE := hide (fun w1 => good_any k c q to' t ao n cap i5.room i5.big i5.nul ht w1)
  have FM := hide (fun w1 (b1 : Below w.heap.size w w1) => fewMsg_any x0 x1 x2 x3 x4 x5 x6 x7 y aot aoe aoo aon nt ct ne ce no co nn cn es hne (Nat.le_trans i1.room i1.big) (Nat.le_trans l2 l2') (Nat.le_trans i3.room i3.big) (Nat.le_trans i4.room i4.big) w1 (he.below b1))
  have FE := hide (fun w1 => few_any k c q to' t ao n cap (Nat.le_trans i5.room i5.big) ht w1)
  have BO := hide (fun (yw W2 : World) (kl cl : Nat) (aol : Option Addr) (vs : List Value) (base : Nat) hbase hk hl hB ho h6 hm he hW => @both_fin w yw W2 w.heap.size x0 x1 x2 x3 x4 x5 x6 x7 y aot aoe aoo aon aol ao nt ct ne ce kl cl no co nn cn n cap ts os ns ms es k c q to' t vs rfl i1 i3 i4 i5 ht hk hl hB base hbase ho h6 hm he hW)
  have HW := hide hW
  have BW := hide bW
  have HM := hide hbm
  have HE := hide hbe
  have HS := hide hS
  have ZW := hide zW
  clear hW bW hbm hbe hS zW i1 i3 i4 i5 ht hne l2 l2' u2 he
  go_enter Tryd.func6, Tryd.ntmps6
  go_wp2_with fail
  rw [unhide HW]
  clear HW
  refine (known_any W ((unhide HS).below (unhide BW))).mono ?_
  rintro e w1 ⟨rfl, b1⟩
  have M1 := hide ((b1.block _ (heap_lt (unhide HM))).trans (unhide HM))
  have E1 := hide ((b1.block _ (heap_lt (unhide HE))).trans (unhide HE))
  have B1 := hide ((unhide BW).trans (b1.mono (unhide BW).size))
  have Z1 := hide (Nat.le_trans (unhide ZW) b1.size)
  have a0 : w1.cell? ⟨w.heap.size, 0, none⟩ = some (.int .i64 x0) := (cell_of_block (unhide M1)).trans rfl
  have a1 : w1.cell? ⟨w.heap.size, 1, none⟩ = some (.int .i64 x1) := (cell_of_block (unhide M1)).trans rfl
  have a2 : w1.cell? ⟨w.heap.size, 2, none⟩ = some (.int .i64 x2) := (cell_of_block (unhide M1)).trans rfl
  have a3 : w1.cell? ⟨w.heap.size, 3, none⟩ = some (.int .i64 x3) := (cell_of_block (unhide M1)).trans rfl
  have a4 : w1.cell? ⟨w.heap.size, 4, none⟩ = some (.int .i64 x4) := (cell_of_block (unhide M1)).trans rfl
  have a5 : w1.cell? ⟨w.heap.size, 5, none⟩ = some (.int .i64 x5) := (cell_of_block (unhide M1)).trans rfl
  have a6 : w1.cell? ⟨w.heap.size, 6, none⟩ = some (.int .i64 x6) := (cell_of_block (unhide M1)).trans rfl
  have a7 : w1.cell? ⟨w.heap.size, 7, none⟩ = some (.int .i64 x7) := (cell_of_block (unhide M1)).trans rfl
  have a8 : w1.cell? ⟨w.heap.size, 8, none⟩ = some (.bool y) := (cell_of_block (unhide M1)).trans rfl
  have a9 : w1.cell? ⟨w.heap.size, 9, none⟩ = some (.slice aot nt ct) := (cell_of_block (unhide M1)).trans rfl
  have a10 : w1.cell? ⟨w.heap.size, 10, none⟩ = some (.slice aoe ne ce) := (cell_of_block (unhide M1)).trans rfl
  have a11 : w1.cell? ⟨w.heap.size, 11, none⟩ = some (.slice aoo no co) := (cell_of_block (unhide M1)).trans rfl
  have a12 : w1.cell? ⟨w.heap.size, 12, none⟩ = some (.slice aon nn cn) := (cell_of_block (unhide M1)).trans rfl
  have C1 := hide ((unhide FM) w1 (unhide B1))
  clear b1 BW HM HE ZW
  go_wp2_with fail
  refine (unhide C1).mono ?_
  rintro e w2 ⟨⟨b, rfl⟩, b2⟩
  have M2 := hide ((b2.block _ (heap_lt (unhide M1))).trans (unhide M1))
  have E2 := hide ((b2.block _ (heap_lt (unhide E1))).trans (unhide E1))
  have B2 := hide ((unhide B1).trans (b2.mono (unhide B1).size))
  have Z2 := hide (Nat.le_trans (unhide Z1) b2.size)
  clear a0 a1 a2 a3 a4 a5 a6 a7 a8 a9 a10 a11 a12 b2 C1 M1 E1 B1 Z1
  cases b with
  | false =>
    go_wp2
    go_ret
    exact ⟨rfl, unhide B2⟩
  | true =>
  have e0 : w2.cell? ⟨w.heap.size + 1, 0, none⟩ = some (.int .i64 k) := (cell_of_block (unhide E2)).trans rfl
  have e1 : w2.cell? ⟨w.heap.size + 1, 1, none⟩ = some (.int .i64 c) := (cell_of_block (unhide E2)).trans rfl
  have e2 : w2.cell? ⟨w.heap.size + 1, 2, none⟩ = some (.int .i64 q) := (cell_of_block (unhide E2)).trans rfl
  have e3 : w2.cell? ⟨w.heap.size + 1, 3, none⟩ = some (.string t) := (cell_of_block (unhide E2)).trans rfl
  have e4 : w2.cell? ⟨w.heap.size + 1, 4, none⟩ = some (.slice ao n cap) := (cell_of_block (unhide E2)).trans rfl
  have e5 : w2.cell? ⟨w.heap.size + 1, 5, none⟩ = some (.int .i64 to') := (cell_of_block (unhide E2)).trans rfl
  have C2 := hide ((unhide FE) w2)
  go_wp2_with fail
  refine (unhide C2).mono ?_
  rintro e w3 ⟨⟨b, rfl⟩, b3⟩
  have M3 := hide ((b3.block _ (heap_lt (unhide M2))).trans (unhide M2))
  have E3 := hide ((b3.block _ (heap_lt (unhide E2))).trans (unhide E2))
  have B3 := hide ((unhide B2).trans (b3.mono (unhide B2).size))
  have Z3 := hide (Nat.le_trans (unhide Z2) b3.size)
  clear e0 e1 e2 e3 e4 e5 b3 C2 M2 E2 B2 Z2
  cases b with
  | false =>
    go_wp2
    go_ret
    exact ⟨rfl, unhide B3⟩
  | true =>
  go_upto_region 5 with fail
  go_cut [] (fun wc => BothAt wc w.heap.size ∧ Below w.heap.size w wc)
  case first =>
    have a0 : w3.cell? ⟨w.heap.size, 0, none⟩ = some (.int .i64 x0) := (cell_of_block (unhide M3)).trans rfl
    have a1 : w3.cell? ⟨w.heap.size, 1, none⟩ = some (.int .i64 x1) := (cell_of_block (unhide M3)).trans rfl
    have a2 : w3.cell? ⟨w.heap.size, 2, none⟩ = some (.int .i64 x2) := (cell_of_block (unhide M3)).trans rfl
    have a3 : w3.cell? ⟨w.heap.size, 3, none⟩ = some (.int .i64 x3) := (cell_of_block (unhide M3)).trans rfl
    have a4 : w3.cell? ⟨w.heap.size, 4, none⟩ = some (.int .i64 x4) := (cell_of_block (unhide M3)).trans rfl
    have a5 : w3.cell? ⟨w.heap.size, 5, none⟩ = some (.int .i64 x5) := (cell_of_block (unhide M3)).trans rfl
    have a6 : w3.cell? ⟨w.heap.size, 6, none⟩ = some (.int .i64 x6) := (cell_of_block (unhide M3)).trans rfl
    have a7 : w3.cell? ⟨w.heap.size, 7, none⟩ = some (.int .i64 x7) := (cell_of_block (unhide M3)).trans rfl
    have a8 : w3.cell? ⟨w.heap.size, 8, none⟩ = some (.bool y) := (cell_of_block (unhide M3)).trans rfl
    have a9 : w3.cell? ⟨w.heap.size, 9, none⟩ = some (.slice aot nt ct) := (cell_of_block (unhide M3)).trans rfl
    have a10 : w3.cell? ⟨w.heap.size, 10, none⟩ = some (.slice aoe ne ce) := (cell_of_block (unhide M3)).trans rfl
    have a11 : w3.cell? ⟨w.heap.size, 11, none⟩ = some (.slice aoo no co) := (cell_of_block (unhide M3)).trans rfl
    have a12 : w3.cell? ⟨w.heap.size, 12, none⟩ = some (.slice aon nn cn) := (cell_of_block (unhide M3)).trans rfl
    have e0 : w3.cell? ⟨w.heap.size + 1, 0, none⟩ = some (.int .i64 k) := (cell_of_block (unhide E3)).trans rfl
    have e1 : w3.cell? ⟨w.heap.size + 1, 1, none⟩ = some (.int .i64 c) := (cell_of_block (unhide E3)).trans rfl
    have e2 : w3.cell? ⟨w.heap.size + 1, 2, none⟩ = some (.int .i64 q) := (cell_of_block (unhide E3)).trans rfl
    have e3 : w3.cell? ⟨w.heap.size + 1, 3, none⟩ = some (.string t) := (cell_of_block (unhide E3)).trans rfl
    have e4 : w3.cell? ⟨w.heap.size + 1, 4, none⟩ = some (.slice ao n cap) := (cell_of_block (unhide E3)).trans rfl
    have e5 : w3.cell? ⟨w.heap.size + 1, 5, none⟩ = some (.int .i64 to') := (cell_of_block (unhide E3)).trans rfl
    have fm : ∀ i, w3.frozen? ⟨w.heap.size, i, none⟩ = false := fun i => free_of_block (unhide M3)
    have fe : ∀ i, w3.frozen? ⟨w.heap.size + 1, i, none⟩ = false := fun i => free_of_block (unhide E3)
    go_region_with (first
      | (go_at_call 23
         refine ((unhide GM) _ (by first | exact unhide B3 | exact (unhide B3).drew | exact (unhide B3).drew.drew | exact (unhide B3).drew.drew.drew | exact unhide B5 | exact (unhide B5).drew | exact (unhide B5).drew.drew)).mono ?_
         rintro e w4 ⟨aol, kl, cl, rfl, hkl, hl1, hl2, hl3, ⟨vs, ho4, h64⟩, b4⟩
         have M4 : Hid (w4.heap[w.heap.size]? = some (.cells #[.int .i64 x0, .int .i64 x1, .int .i64 x2, .int .i64 x3, .int .i64 x4, .int .i64 x5, .int .i64 x6, .int .i64 x7, .bool y, .slice aot nt ct, .slice aoe ne ce, .slice aoo no co, .slice aon nn cn] 41 (0, 0))) := by first | exact (b4.block _ (heap_lt (unhide M3))).trans (unhide M3) | exact (b4.block _ (heap_lt (unhide M5))).trans (unhide M5)
         have E4 : Hid (w4.heap[w.heap.size + 1]? = some (.cells #[.int .i64 k, .int .i64 c, .int .i64 q, .string t, .slice ao n cap, .int .i64 to'] 24 (0, 0))) := by first | exact (b4.block _ (heap_lt (unhide E3))).trans (unhide E3) | exact (b4.block _ (heap_lt (unhide E5))).trans (unhide E5)
         have B4 : Hid (Below w.heap.size w w4) := by first | exact below_next (unhide B3) b4 | exact below_next (unhide B3).drew b4 | exact below_next (unhide B3).drew.drew b4 | exact below_next (unhide B3).drew.drew.drew b4 | exact below_next (unhide B5) b4 | exact below_next (unhide B5).drew b4 | exact below_next (unhide B5).drew.drew b4
         have g0 : w4.cell? ⟨w.heap.size + 1, 0, none⟩ = some (.int .i64 k) := (cell_of_block (unhide E4)).trans rfl
         have g1 : w4.cell? ⟨w.heap.size + 1, 1, none⟩ = some (.int .i64 c) := (cell_of_block (unhide E4)).trans rfl
         have g2 : w4.cell? ⟨w.heap.size + 1, 2, none⟩ = some (.int .i64 q) := (cell_of_block (unhide E4)).trans rfl
         have g3 : w4.cell? ⟨w.heap.size + 1, 3, none⟩ = some (.string t) := (cell_of_block (unhide E4)).trans rfl
         have g4 : w4.cell? ⟨w.heap.size + 1, 4, none⟩ = some (.slice ao n cap) := (cell_of_block (unhide E4)).trans rfl
         have g5 : w4.cell? ⟨w.heap.size + 1, 5, none⟩ = some (.int .i64 to') := (cell_of_block (unhide E4)).trans rfl
         have fm4 : ∀ i, w4.frozen? ⟨w.heap.size, i, none⟩ = false := fun i => free_of_block (unhide M4)
         have fe4 : ∀ i, w4.frozen? ⟨w.heap.size + 1, i, none⟩ = false := fun i => free_of_block (unhide E4)
         have HK4 := hide (show ((es.take 64).map goodE).length = kl ∧ kl ≤ cl ∧ cl ≤ maxLen ∧ (aol = none → cl = 0) from ⟨hkl, hl1, hl2, hl3⟩)
         have HO4 := hide ho4
         have H64 := hide h64
         have BB4 := hide b4
         clear hkl hl1 hl2 hl3 ho4 h64 b4)
      | (go_at_call 14
         refine ((unhide GE) _).mono ?_
         rintro e w5 ⟨rfl, b5⟩
         have M5 : Hid (w5.heap[w.heap.size]? = some (.cells #[.int .i64 x0, .int .i64 x1, .int .i64 x2, .int .i64 x3, .int .i64 x4, .int .i64 x5, .int .i64 x6, .int .i64 x7, .bool y, .slice aot nt ct, .slice aoe ne ce, .slice aoo no co, .slice aon nn cn] 41 (0, 0))) := by first | exact (b5.block _ (heap_lt (unhide M4))).trans (unhide M4) | exact (b5.block _ (heap_lt (unhide M3))).trans (unhide M3)
         have E5 : Hid (w5.heap[w.heap.size + 1]? = some (.cells #[.int .i64 k, .int .i64 c, .int .i64 q, .string t, .slice ao n cap, .int .i64 to'] 24 (0, 0))) := by first | exact (b5.block _ (heap_lt (unhide E4))).trans (unhide E4) | exact (b5.block _ (heap_lt (unhide E3))).trans (unhide E3)
         have B5 : Hid (Below w.heap.size w w5) := by first | exact below_next (unhide B3) b5 | exact below_next (unhide B3).drew b5 | exact below_next (unhide B3).drew.drew b5 | exact below_next (unhide B3).drew.drew.drew b5 | exact below_next (unhide B4) b5 | exact below_next (unhide B4).drew b5 | exact below_next (unhide B4).drew.drew b5
         have h0 : w5.cell? ⟨w.heap.size, 0, none⟩ = some (.int .i64 x0) := (cell_of_block (unhide M5)).trans rfl
         have h1 : w5.cell? ⟨w.heap.size, 1, none⟩ = some (.int .i64 x1) := (cell_of_block (unhide M5)).trans rfl
         have h2 : w5.cell? ⟨w.heap.size, 2, none⟩ = some (.int .i64 x2) := (cell_of_block (unhide M5)).trans rfl
         have h3 : w5.cell? ⟨w.heap.size, 3, none⟩ = some (.int .i64 x3) := (cell_of_block (unhide M5)).trans rfl
         have h4 : w5.cell? ⟨w.heap.size, 4, none⟩ = some (.int .i64 x4) := (cell_of_block (unhide M5)).trans rfl
         have h5 : w5.cell? ⟨w.heap.size, 5, none⟩ = some (.int .i64 x5) := (cell_of_block (unhide M5)).trans rfl
         have h6 : w5.cell? ⟨w.heap.size, 6, none⟩ = some (.int .i64 x6) := (cell_of_block (unhide M5)).trans rfl
         have h7 : w5.cell? ⟨w.heap.size, 7, none⟩ = some (.int .i64 x7) := (cell_of_block (unhide M5)).trans rfl
         have h8 : w5.cell? ⟨w.heap.size, 8, none⟩ = some (.bool y) := (cell_of_block (unhide M5)).trans rfl
         have h9 : w5.cell? ⟨w.heap.size, 9, none⟩ = some (.slice aot nt ct) := (cell_of_block (unhide M5)).trans rfl
         have h10 : w5.cell? ⟨w.heap.size, 10, none⟩ = some (.slice aoe ne ce) := (cell_of_block (unhide M5)).trans rfl
         have h11 : w5.cell? ⟨w.heap.size, 11, none⟩ = some (.slice aoo no co) := (cell_of_block (unhide M5)).trans rfl
         have h12 : w5.cell? ⟨w.heap.size, 12, none⟩ = some (.slice aon nn cn) := (cell_of_block (unhide M5)).trans rfl
         have p0 : w5.cell? ⟨w.heap.size + 1, 0, none⟩ = some (.int .i64 k) := (cell_of_block (unhide E5)).trans rfl
         have p1 : w5.cell? ⟨w.heap.size + 1, 1, none⟩ = some (.int .i64 c) := (cell_of_block (unhide E5)).trans rfl
         have p2 : w5.cell? ⟨w.heap.size + 1, 2, none⟩ = some (.int .i64 q) := (cell_of_block (unhide E5)).trans rfl
         have p3 : w5.cell? ⟨w.heap.size + 1, 3, none⟩ = some (.string t) := (cell_of_block (unhide E5)).trans rfl
         have p4 : w5.cell? ⟨w.heap.size + 1, 4, none⟩ = some (.slice ao n cap) := (cell_of_block (unhide E5)).trans rfl
         have p5 : w5.cell? ⟨w.heap.size + 1, 5, none⟩ = some (.int .i64 to') := (cell_of_block (unhide E5)).trans rfl
         have fm5 : ∀ i, w5.frozen? ⟨w.heap.size, i, none⟩ = false := fun i => free_of_block (unhide M5)
         have fe5 : ∀ i, w5.frozen? ⟨w.heap.size + 1, i, none⟩ = false := fun i => free_of_block (unhide E5)
         have BB5 := hide b5
         clear b5 a0 a1 a2 a3 a4 a5 a6 a7 a8 a9 a10 a11 a12 e0 e1 e2 e3 e4 e5 fm fe fm4 fe4 g0 g1 g2 g3 g4 g5))
    all_goals go_wp2_with fail
    all_goals go_meet
    all_goals exact (unhide BO) w5 _ kl cl aol vs _ (unhide Z3) (unhide HK4).1 (unhide HK4).2 (unhide B5) (own_below (unhide HO4) (unhide BB5)) (unhide H64) (unhide M5) (unhide E5) rfl
  case rest =>
    clear GM GE FM FE BO M3 E3 B3 Z3
    obtain ⟨⟨⟨m, at1, ae, ao1, an, ct1, ce1, co1, cn1, hm⟩, ⟨en, af, cf, hen⟩⟩, bc⟩ := hcut
    have c10 : wc.cell? ⟨w.heap.size, 10, none⟩ = some (.slice ae m.es.length ce1) := (cell_of_block hm.box).trans rfl
    have f10 : wc.frozen? ⟨w.heap.size, 10, none⟩ = false := free_of_block hm.box
    have l64 := ok6_len hm.ok.es
    obtain ⟨r1, r2, r3⟩ := hm.room
    have r2' : ce1 ≤ 9223372036854775807 := r2
    have HM := hide hm
    have HEN := hide hen
    have BC := hide bc
    obtain ⟨le, hle⟩ : ∃ le, m.es.length = le := ⟨_, rfl⟩
    rw [hle] at c10 l64 r1
    have HLE := hide hle
    clear hm hen bc hle r2
    go_upto_if 36 with fail
    go_cut [] (fun wd => BothAt wd w.heap.size ∧ Below w.heap.size w wd)
    case first =>
      by_cases h3 : 3 < le
      · cases ae with
        | none => exact absurd (r3 rfl) (by omega)
        | some ad =>
          clear r3
          go_wp2
          go_meet
          have kk := (Kept.refl w.heap.size (fun k => k = w.heap.size) wc).setCell (p := ⟨w.heap.size, 10, none⟩) (Nat.le_refl _) rfl (.slice (some ad) 3 ce1)
          have ss := Same.kept kk (Or.inl rfl)
          refine ⟨⟨⟨_, _, _, _, _, _, _, _, _, (unhide HM).ents 3 (by rw [unhide HLE]; omega) ss ?_⟩, ⟨en, af, cf, (unhide HEN).same ss ?_⟩⟩, (unhide BC).trans kk.1⟩
          · exact setCell_block (unhide HM).box
          · exact Below.heap_setCell _ _ _ _ (by simp)
      · clear r3
        go_wp2
        go_meet
        exact ⟨⟨⟨m, at1, ae, ao1, an, ct1, ce1, co1, cn1, unhide HM⟩, ⟨en, af, cf, unhide HEN⟩⟩, unhide BC⟩
    case rest =>
    clear c10 f10 l64 r1 r3 r2' HM HEN BC HLE
    clear le m at1 ae ao1 an ct1 ce1 co1 cn1 en af cf
    obtain ⟨⟨⟨m, at1, ae, ao1, an, ct1, ce1, co1, cn1, hm⟩, ⟨en, af, cf, hen⟩⟩, bc⟩ := hcut
    have c9 : wc.cell? ⟨w.heap.size, 9, none⟩ = some (.slice at1 m.terms.length ct1) := (cell_of_block hm.box).trans rfl
    have f9 : wc.frozen? ⟨w.heap.size, 9, none⟩ = false := free_of_block hm.box
    have l64 := ok6_len hm.ok.terms
    have i1 := hm.t _ (Same.refl _ _)
    have r1 := i1.room
    have r2 : ct1 ≤ 9223372036854775807 := i1.big
    have r3 := i1.nul
    have HM := hide hm
    have HEN := hide hen
    have BC := hide bc
    obtain ⟨le, hle⟩ : ∃ le, m.terms.length = le := ⟨_, rfl⟩
    rw [hle] at c9 l64 r1
    have HLE := hide hle
    clear hm hen bc hle i1
    go_upto_if 44 with fail
    go_cut [] (fun wd => BothAt wd w.heap.size ∧ Below w.heap.size w wd)
    case first =>
      by_cases h3 : 5 < le
      · cases at1 with
        | none => exact absurd (r3 rfl) (by omega)
        | some ad =>
          clear r3
          go_wp2
          go_meet
          have kk := (Kept.refl w.heap.size (fun k => k = w.heap.size) wc).setCell (p := ⟨w.heap.size, 9, none⟩) (Nat.le_refl _) rfl (.slice (some ad) 5 ct1)
          have ss := Same.kept kk (Or.inl rfl)
          refine ⟨⟨⟨_, _, _, _, _, _, _, _, _, (unhide HM).terms 5 (by rw [unhide HLE]; omega) ss ?_⟩, ⟨en, af, cf, (unhide HEN).same ss ?_⟩⟩, (unhide BC).trans kk.1⟩
          · exact setCell_block (unhide HM).box
          · exact Below.heap_setCell _ _ _ _ (by simp)
      · clear r3
        go_wp2
        go_meet
        exact ⟨⟨⟨m, at1, ae, ao1, an, ct1, ce1, co1, cn1, unhide HM⟩, ⟨en, af, cf, unhide HEN⟩⟩, unhide BC⟩
    case rest =>
    clear c9 f9 l64 r1 r2 r3 HM HEN BC HLE
    clear le m at1 ae ao1 an ct1 ce1 co1 cn1 en af cf
    obtain ⟨⟨⟨m, at1, ae, ao1, an, ct1, ce1, co1, cn1, hm⟩, ⟨en, af, cf, hen⟩⟩, bc⟩ := hcut
    obtain ⟨w3, hw3⟩ : ∃ w3, w3 = wc := ⟨_, rfl⟩
    rw [← hw3] at hm hen bc ⊢
    clear hw3
    have a0 : w3.cell? ⟨w.heap.size, 0, none⟩ = some (.int .i64 m.src) := (cell_of_block hm.box).trans rfl
    have a1 : w3.cell? ⟨w.heap.size, 1, none⟩ = some (.int .i64 m.to) := (cell_of_block hm.box).trans rfl
    have a2 : w3.cell? ⟨w.heap.size, 2, none⟩ = some (.int .i64 m.gen) := (cell_of_block hm.box).trans rfl
    have a3 : w3.cell? ⟨w.heap.size, 3, none⟩ = some (.int .i64 m.kind) := (cell_of_block hm.box).trans rfl
    have a4 : w3.cell? ⟨w.heap.size, 4, none⟩ = some (.int .i64 m.term) := (cell_of_block hm.box).trans rfl
    have a5 : w3.cell? ⟨w.heap.size, 5, none⟩ = some (.int .i64 m.index) := (cell_of_block hm.box).trans rfl
    have a6 : w3.cell? ⟨w.heap.size, 6, none⟩ = some (.int .i64 m.last) := (cell_of_block hm.box).trans rfl
    have a7 : w3.cell? ⟨w.heap.size, 7, none⟩ = some (.int .i64 m.commit) := (cell_of_block hm.box).trans rfl
    have a8 : w3.cell? ⟨w.heap.size, 8, none⟩ = some (.bool m.yes) := (cell_of_block hm.box).trans rfl
    have a9 : w3.cell? ⟨w.heap.size, 9, none⟩ = some (.slice at1 m.terms.length ct1) := (cell_of_block hm.box).trans rfl
    have a10 : w3.cell? ⟨w.heap.size, 10, none⟩ = some (.slice ae m.es.length ce1) := (cell_of_block hm.box).trans rfl
    have a11 : w3.cell? ⟨w.heap.size, 11, none⟩ = some (.slice ao1 m.old.length co1) := (cell_of_block hm.box).trans rfl
    have a12 : w3.cell? ⟨w.heap.size, 12, none⟩ = some (.slice an m.new.length cn1) := (cell_of_block hm.box).trans rfl
    have S3 := (unhide HS).below bc
    have CM := hide (encMsg_at hm S3)
    have HEN := hide hen
    have B3 := hide bc
    have HS3 := hide S3
    clear hm hen bc S3
    go_wp2_with fail
    refine (unhide CM).mono ?_
    rintro e w4 ⟨A, aA, cA, rfl, hA, hHA, b4⟩
    have hE4 := (unhide HEN).same (Same.below b4) (b4.block _ (heap_lt (unhide HEN).box))
    have e0 : w4.cell? ⟨w.heap.size + 1, 0, none⟩ = some (.int .i64 en.kind) := (cell_of_block hE4.box).trans rfl
    have e1 : w4.cell? ⟨w.heap.size + 1, 1, none⟩ = some (.int .i64 en.client) := (cell_of_block hE4.box).trans rfl
    have e2 : w4.cell? ⟨w.heap.size + 1, 2, none⟩ = some (.int .i64 en.seq) := (cell_of_block hE4.box).trans rfl
    have e3 : w4.cell? ⟨w.heap.size + 1, 3, none⟩ = some (.string en.text) := (cell_of_block hE4.box).trans rfl
    have e4 : w4.cell? ⟨w.heap.size + 1, 4, none⟩ = some (.slice af en.ms.length cf) := (cell_of_block hE4.box).trans rfl
    have e5 : w4.cell? ⟨w.heap.size + 1, 5, none⟩ = some (.int .i64 en.to) := (cell_of_block hE4.box).trans rfl
    have HS4 := hide ((unhide HS3).below b4)
    have CE := hide (encEnt_at hE4 (unhide HS4))
    have B4 := hide ((unhide B3).trans (b4.mono (unhide B3).size))
    have HHA := hide hHA
    have HA := hide hA
    obtain ⟨nA, hnA⟩ : ∃ n, A.length = n := ⟨_, rfl⟩
    have lA := hA.len
    rw [hnA] at lA HHA ⊢
    have HNA := hide hnA
    have rA := (unhide HHA).room
    have qA : cA ≤ 9223372036854775807 := (unhide HHA).big
    clear hE4 b4 hHA hA hnA CM B3 HS3 HEN a0 a1 a2 a3 a4 a5 a6 a7 a8 a9 a10 a11 a12
    go_wp2_with fail
    refine (unhide CE).mono ?_
    rintro e w5 ⟨B, aB, cB, rfl, hB, hHB, b5⟩
    have HS5 := hide ((unhide HS4).below b5)
    have B5 := hide ((unhide B4).trans (b5.mono (unhide B4).size))
    have HHA5 := hide ((unhide HHA).below b5)
    have HHB := hide hHB
    have HB := hide hB
    obtain ⟨nB, hnB⟩ : ∃ n, B.length = n := ⟨_, rfl⟩
    have lB := hB.len
    rw [hnB] at lB HHB ⊢
    have HNB := hide hnB
    have rB := (unhide HHB).room
    have qB : cB ≤ 9223372036854775807 := (unhide HHB).big
    clear b5 hHB hB hnB CE B4 HS4 HHA e0 e1 e2 e3 e4 e5
    go_wp2_with fail
    go_loopg [9] nA (fun g iv wr => ∃ j : Nat, j + g = nA ∧ iv = .int .i64 (j : Int) ∧ Below w5.heap.size w5 wr)
    case atStart => exact ⟨0, by omega, rfl, Below.refl _ _⟩
    case round =>
      obtain ⟨j, hj, rfl, br⟩ := hrel
      have HJ := hide hj
      have BR := hide br
      have hjn : j ≤ nA := by omega
      clear hj br
      by_cases hlt : j < nA
      · have P := hide (parseMsg_front (unhide HA) ((unhide HHA5).below (unhide BR)) ((unhide HS5).below (unhide BR)) j hlt)
        go_wp2_with fail
        refine (unhide P).mono ?_
        rintro e w6 ⟨rfl, b6⟩
        have B6 := hide (below_next (unhide BR) b6)
        clear b6 P
        go_wp2
        go_roundg (nA - (j + 1))
        case measure => have := unhide HJ; omega
        case rel => exact ⟨j + 1, by omega, by go_num, below_next (unhide B6) ((Below.refl _ w6).alloc (Nat.le_refl _) _)⟩
      · go_wp2_with fail
        go_loopg [12] nB (fun g iv wr => ∃ j : Nat, j + g = nB ∧ iv = .int .i64 (j : Int) ∧ Below w5.heap.size w5 wr)
        case atStart => exact ⟨0, by omega, rfl, unhide BR⟩
        case round =>
          clear HJ BR
          obtain ⟨i, hi, rfl, bz⟩ := hrel
          have HI := hide hi
          have BZ := hide bz
          have hin : i ≤ nB := by omega
          clear hi bz
          by_cases hlt2 : i < nB
          · have P := hide (parseEntry_front (unhide HB) ((unhide HHB).below (unhide BZ)) ((unhide HS5).below (unhide BZ)) i hlt2)
            go_wp2_with fail
            refine (unhide P).mono ?_
            rintro e w6 ⟨rfl, b6⟩
            have B6 := hide (below_next (unhide BZ) b6)
            clear b6 P
            go_wp2
            go_roundg (nB - (i + 1))
            case measure => have := unhide HI; omega
            case rel => exact ⟨i + 1, by omega, by go_num, below_next (unhide B6) ((Below.refl _ w6).alloc (Nat.le_refl _) _)⟩
          · have OE := hide (own_empty wr.heap.size wr (Nat.le_refl _))
            have bE : Below wr.heap.size wr (wr.alloc (.cells #[] 5)) := (Below.refl _ wr).alloc (Nat.le_refl _) _
            have YA := hide (((unhide HHA5).below (below_next (unhide BZ) bE)).are)
            have BE := hide bE
            clear bE
            go_wp2_with (at_builtin; refine wpList_append_bytes rfl (.tmp 96) (.tmp 97) rfl wr.heap.size _ [] 0 rfl rfl (unhide OE) (some aA) nA cA A rfl (unhide HNA) (unhide YA) (fun h => by cases h) (by omega) (by simp) ?_)
            intro ao6 cap6 w6 o6 b6 _
            have O6 := hide o6
            have B6 := hide ((unhide BE).trans b6)
            have s6 := (unhide B6).size
            clear o6 b6 OE YA BE
            have O6' : Hid (Own wr.heap.size (w6.alloc (.cells #[.int .u8 0] 5)) (.slice ao6 nA cap6) A) := ⟨(unhide O6).1.alloc _, (unhide O6).2⟩
            have Y6 : Hid (Bytes (w6.alloc (.cells #[.int .u8 0] 5)) (some ⟨w6.heap.size, 0, none⟩) [0]) := bytes_new w6 [0] (by simp) 5 (0, 0)
            go_wp2_with (at_builtin; refine wpList_append_bytes rfl (.tmp 98) (.tmp 99) rfl wr.heap.size _ A nA (unhide HNA) rfl (unhide O6') (some ⟨w6.heap.size, 0, none⟩) 1 1 [0] rfl rfl (unhide Y6) (fun h => by cases h) (by omega) (by simp; omega) ?_)
            intro ao7 cap7 w7 o7 b7 _
            have B7 := hide ((unhide B6).trans ((((Below.refl _ w6).alloc (Nat.le_refl _) (.cells #[.int .u8 0] 5)).mono s6).trans b7))
            have B7w := hide (below_next (unhide BZ) (unhide B7))
            have P := hide (parseMsg_more (unhide HA) (unhide HNA) o7 ((unhide HS5).below (unhide B7w)))
            clear o7 b7 O6 O6' Y6 B6 s6
            go_wp2_with fail
            refine (unhide P).mono ?_
            rintro e w8 ⟨rfl, b8⟩
            have b9 : Below w8.heap.size w8 (w8.alloc (.cells #[.int .i64 0, .int .i64 0, .int .i64 0, .int .i64 0, .int .i64 0, .int .i64 0, .int .i64 0, .int .i64 0, .bool false, .slice none 0 0, .slice none 0 0, .slice none 0 0, .slice none 0 0] 41)) := (Below.refl _ w8).alloc (Nat.le_refl _) _
            have B9 := hide (below_next (below_next (unhide B7w) b8) b9)
            clear b8 b9 P B7 B7w
            have z9 : (w8.alloc (.cells #[.int .i64 0, .int .i64 0, .int .i64 0, .int .i64 0, .int .i64 0, .int .i64 0, .int .i64 0, .int .i64 0, .bool false, .slice none 0 0, .slice none 0 0, .slice none 0 0, .slice none 0 0] 41)).heap.size = w8.heap.size + 1 := by simp
            have oe := own_empty (w8.heap.size + 1) (w8.alloc (.cells #[.int .i64 0, .int .i64 0, .int .i64 0, .int .i64 0, .int .i64 0, .int .i64 0, .int .i64 0, .int .i64 0, .bool false, .slice none 0 0, .slice none 0 0, .slice none 0 0, .slice none 0 0] 41)) (by simp)
            have bE : Below (w8.alloc (.cells #[.int .i64 0, .int .i64 0, .int .i64 0, .int .i64 0, .int .i64 0, .int .i64 0, .int .i64 0, .int .i64 0, .bool false, .slice none 0 0, .slice none 0 0, .slice none 0 0, .slice none 0 0] 41)).heap.size (w8.alloc (.cells #[.int .i64 0, .int .i64 0, .int .i64 0, .int .i64 0, .int .i64 0, .int .i64 0, .int .i64 0, .int .i64 0, .bool false, .slice none 0 0, .slice none 0 0, .slice none 0 0, .slice none 0 0] 41)) ((w8.alloc (.cells #[.int .i64 0, .int .i64 0, .int .i64 0, .int .i64 0, .int .i64 0, .int .i64 0, .int .i64 0, .int .i64 0, .bool false, .slice none 0 0, .slice none 0 0, .slice none 0 0, .slice none 0 0] 41)).alloc (.cells #[] 5)) := (Below.refl _ _).alloc (Nat.le_refl _) _
            have YB := hide (((unhide HHB).below (below_next (unhide B9) bE)).are)
            rw [z9] at oe bE
            have OE := hide oe
            have BE := hide bE
            clear bE oe z9
            go_wp2_with (at_builtin; refine wpList_append_bytes rfl (.tmp 105) (.tmp 106) rfl (w8.heap.size + 1) _ [] 0 rfl rfl (unhide OE) (some aB) nB cB B rfl (unhide HNB) (unhide YB) (fun h => by cases h) (by omega) (by simp) ?_)
            intro ao6 cap6 w10 o6 b6 _
            have O6 := hide o6
            have B6 := hide ((unhide BE).trans b6)
            have s6 := (unhide B6).size
            rw [World.size_alloc] at s6
            clear o6 b6 OE YB BE
            have O6' : Hid (Own (w8.heap.size + 1) (w10.alloc (.cells #[.int .u8 0] 5)) (.slice ao6 nB cap6) B) := ⟨(unhide O6).1.alloc _, (unhide O6).2⟩
            have Y6 : Hid (Bytes (w10.alloc (.cells #[.int .u8 0] 5)) (some ⟨w10.heap.size, 0, none⟩) [0]) := bytes_new w10 [0] (by simp) 5 (0, 0)
            go_wp2_with (at_builtin; refine wpList_append_bytes rfl (.tmp 107) (.tmp 108) rfl (w8.heap.size + 1) _ B nB (unhide HNB) rfl (unhide O6') (some ⟨w10.heap.size, 0, none⟩) 1 1 [0] rfl rfl (unhide Y6) (fun h => by cases h) (by omega) (by simp; omega) ?_)
            intro ao7 cap7 w11 o7 b7 _
            have B7 := hide ((unhide B6).trans ((((Below.refl _ w10).alloc (Nat.le_refl _) (.cells #[.int .u8 0] 5)).mono s6).trans b7))
            have B7' : Below (w8.alloc (.cells #[.int .i64 0, .int .i64 0, .int .i64 0, .int .i64 0, .int .i64 0, .int .i64 0, .int .i64 0, .int .i64 0, .bool false, .slice none 0 0, .slice none 0 0, .slice none 0 0, .slice none 0 0] 41)).heap.size (w8.alloc (.cells #[.int .i64 0, .int .i64 0, .int .i64 0, .int .i64 0, .int .i64 0, .int .i64 0, .int .i64 0, .int .i64 0, .bool false, .slice none 0 0, .slice none 0 0, .slice none 0 0, .slice none 0 0] 41)) w11 := by rw [World.size_alloc]; exact unhide B7
            have B7w := hide (below_next (unhide B9) B7')
            clear B7'
            have P := hide (parseEntry_more (unhide HB) (unhide HNB) o7 ((unhide HS5).below (unhide B7w)))
            clear o7 b7 O6 O6' Y6 B6 s6
            go_wp2_with fail
            refine (unhide P).mono ?_
            rintro e w12 ⟨rfl, b8⟩
            have B12 := hide ((unhide B5).trans ((below_next (below_next (unhide B7w) b8) ((Below.refl _ w12).alloc (Nat.le_refl _) (.cells #[.int .i64 0, .int .i64 0, .int .i64 0, .string ⟨#[]⟩, .slice none 0 0, .int .i64 0] 24))).mono (unhide B5).size))
            clear b8 P B7 B7w
            go_wp2
            go_ret
            exact ⟨rfl, unhide B12⟩
end Go.Proofs.YtjcllplgiffmgaaDoor
