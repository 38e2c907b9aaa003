/- maps.Values, slices.Sorted of what it hands out, sort.Search: contracts. -/
import Derived.Test.YtjcidihcmbenhaaYLast
import Derived.Test.YtjcidihcmbenhaaKShelf
import Derived.Shelf.SlIter.AllValues
import Derived.Shelf.SlIterI.Nil
namespace Go.Proofs.Ytjcidihcmbenhaa
open Go.RowKit Go.Maps Go.Sort Go.Shelf

/-- pairs of a key and what it has: each key once, all of them. -/
def PairsOf (D : DataW Unit) (ps : List (Int × Int)) : Prop :=
  ps.length ≤ Maps.size D ∧ (∀ x, x ∈ ps.map (·.1) ↔ Maps.has D (.int .i64 x) = true) ∧ ∀ p ∈ ps, ∀ zd, D.atKey (.int .i64 p.1) zd = .lit (.int .i64 p.2)

set_option maxRecDepth 100000 in
set_option maxHeartbeats 1000000 in
theorem values1_in (F : Fence) (n : Nat) (hfn : F.fn 44) (hro : F.round = none) (hn : 1 ≤ n) (l Bm b nn : Nat) (D0 : DataW Unit) (J : List Int → World → Prop)
    (hY : ∀ pre x W, J pre W → pre.length < Maps.size D0 → YieldAt F (n - 1) Try.prog l #[.int .i64 x] W fun e W' => e = .returned (.bool true) ∧ J (pre ++ [x]) W' ∧ KeepsWalks W W')
    (W : World) (hJ : AbidesFrom W.heap.size J) (hm : W.cell? ⟨Bm, 0, none⟩ = some (.map (some b))) (hown : W.ownsMap Try.prog 3 (plainElem Try.prog 3) b nn D0) (h0 : J [] W) :
    CallsIn F n Try.prog 44 #[.func (.yield l) #[] #[], .pointer (some ⟨Bm, 0, none⟩)] W fun e W' => (∃ v, e = .returned v) ∧ ∃ xs, (∃ ps, PairsOf D0 ps ∧ xs = ps.map (·.2)) ∧ J xs W' := by
  refine callsIn_of_wp Try.func44 rfl hfn ?_ hro
  simp only [Try.ntmps44, List.size_toArray, List.length_cons, List.length_nil, Nat.reduceAdd, Nat.reduceSub, Array.replicate_succ, Array.replicate_zero, List.push_toArray, List.append_toArray, List.nil_append, List.cons_append]
  gi_wp2_with (first
    | (gi_at_range; refine wpListIn_range_own _ rfl _ 54 rfl 3 3 keyed Try.underlying54 _ b nn _ rfl hown ?_; intro w0 hrg0 hg0 hs0)
    | gi_in)
  go_frame
  gi_loopw [4] (fun _ wr => ∃ (left : Lit → Bool) (cnt : Nat) (ps : List (Int × Int)), wr.ranges Try.prog 3 (plainElem Try.prog 3) b W.heap.size nn D0 left cnt ∧ ps.length + cnt ≤ Maps.size D0 ∧ CollectedI D0 left (ps.map (·.1)) ∧ (∀ p ∈ ps, ∀ zd, D0.atKey (.int .i64 p.1) zd = .lit (.int .i64 p.2)) ∧ J (ps.map (·.2)) wr)
    (fun _ wr => wr.rangeLeft b W.heap.size)
  case atStart =>
    exact ⟨_, _, [], hrg0, by simp, CollectedI.start D0, by simp, hJ [] W w0 none h0 hg0 (fun r e => by cases e)⟩
  case round =>
    obtain ⟨left, cnt, ps, hrg, hcs, hC, hV, hJs⟩ := hrel
    gi_wp2_with (first
      | (gi_at_next; refine wpListIn_next_ranges _ rfl _ rfl 3 keyed (plainElem Try.prog 3) encZ (Value.int .i64) (fun key kl hk => by obtain ⟨x, hx, _⟩ := Maps.keyOf_i64 Try.underlying3 hk; exact ⟨x, hx⟩) (fun v y hv => by obtain ⟨c, rfl, _⟩ := plainElem_int_inv Try.underlying3 hv; exact ⟨c, rfl⟩) b W.heap.size nn _ _ _ rfl hrg ?_ ?_)
      | gi_in)
    · intro hc0 hl0
      gi_wp2
      go_end0
      exact ⟨⟨_, rfl⟩, _, ⟨ps, ⟨by omega, fun x => by rw [hC.2 x, hl0]; simp, hV⟩, rfl⟩, hJs⟩
    · intro x c kl yd yp w2 cnt2 hkey hlk hv hat hrg2 hlt hg2 hs2 hen
      obtain ⟨x', ex, rfl, _⟩ := Maps.keyOf_i64 Try.underlying3 hkey
      obtain rfl : x = x' := encZ_inj ex
      obtain ⟨c', ec, ez, _⟩ := plainElem_int_inv Try.underlying3 hv
      obtain rfl : c = c' := by simpa using ec
      obtain rfl : yd = .lit (.int .i64 c) := (Prod.mk.inj ez).1
      have hJ2 : J (ps.map (·.2)) w2 := hJ _ wr w2 (some W.heap.size) hJs hg2 (fun r e => by cases e; exact ⟨Nat.le_refl _, hrg.iter_walk⟩)
      obtain ⟨fn, tmps, assign, body, hy, hR⟩ := hY (ps.map (·.2)) c w2 hJ2 (by simp; omega)
      clear hs2
      gi_wp2
      refine hR.mono ?_
      have hC2 : CollectedI D0 (fun z => left z && !z.sameKey (.int .i64 x)) ((ps ++ [(x, c)]).map (·.1)) := by simpa using hC.step hlk hat
      have hV2 : ∀ p ∈ ps ++ [(x, c)], ∀ zd, D0.atKey (.int .i64 p.1) zd = .lit (.int .i64 p.2) := fun p hp => (List.mem_append.1 hp).elim (hV p) (fun e => by simp at e; subst e; exact hat)
      rintro e W3 ⟨rfl, hJ3, hk3⟩
      gi_wp2
      have hrg3 := hrg2.of_walks hk3
      go_roundw
      case rel => exact ⟨_, cnt2, ps ++ [(x, c)], hrg3, by simp; omega, hC2, hV2, by simpa using hJ3⟩
      case measure => rw [hrg3.left_eq, hrg.left_eq]; exact hlt

theorem values_gives (F : Fence) (n : Nat) (hfn : F.fn 44) (hro : F.round = none) (hn : 1 ≤ n) (Bm b nn : Nat) (D0 : DataW Unit) (w : World) (hBm : Bm < w.heap.size)
    (hm : w.cell? ⟨Bm, 0, none⟩ = some (.map (some b))) (hown : w.ownsMap Try.prog 3 (plainElem Try.prog 3) b nn D0) :
    SeqGives F n Try.prog 44 #[.pointer (some ⟨Bm, 0, none⟩)] encZ (fun xs => ∃ ps, PairsOf D0 ps ∧ xs = ps.map (·.2)) (Maps.size D0) w := fun l J W hW hJ hY h0 => by
  have hown' : W.ownsMap Try.prog 3 (plainElem Try.prog 3) b nn D0 := by
    have hbl := hown.lt
    obtain ⟨es, clock, hb, Ft, hs, hD⟩ := hown
    exact ⟨es, clock, (hW.block b hbl).trans hb, Ft, hs, hD⟩
  exact values1_in F n hfn hro hn l Bm b nn D0 J hY W hJ ((hW.cell (p := ⟨Bm, 0, none⟩) hBm).trans hm) hown' h0

theorem sorts_ints (m : Nat) : AnyZI.SortsIn Try.prog Try.sortedA_ren Fence.wide m :=
  ⟨fun blk off cap ss W hH hblk hsz => callsIn_wide.2 (AnyM.slices_Sort_int Try.sortA blk off cap ss W hH hblk hsz),
   fun p cap W => callsIn_wide.2 (AnyM.slices_Sort_int_none Try.sortA p cap W)⟩
/-- what hands the values out, one by one. -/
def valsV (B : Nat) : Value := .func (.func 44) #[] #[.pointer (some ⟨B, 0, none⟩)]
theorem values_any (mb : Option Nat) (w : World) : Calls Try.prog 28 #[.map mb] w fun e w' => e = .returned (valsV w.heap.size) ∧ w' = w.alloc (.cells #[.map mb] 54) := by
  go_enter Try.func28, Try.ntmps28
  go_wp2
  go_ret
  exact ⟨rfl, rfl⟩
theorem sort_rises (xs : List Int) : (xs.mergeSort fun x y => decide (x ≤ y)).Pairwise (· ≤ ·) := by
  have := List.pairwise_mergeSort (le := fun x y : Int => decide (x ≤ y)) (by intro a b c; simp; omega) (by intro a b; simp; omega) xs
  exact this.imp (by intro a b h; simpa using h)
theorem sorted_any (B b c : Nat) (M : List Int) (ms : List (Int × Int)) (w : World) (hB : w.heap[B]? = some (.cells #[.map (some b)] 54 (0, 0))) (hf : Mp 3 w b (cmOf M ms) c) (hmax : c ≤ 1000000000) :
    Calls Try.prog 27 #[valsV B] w fun e w' => ∃ (v : Value) (L : List Int), e = .returned v ∧ Ir w.heap.size w' v L ∧ L.length ≤ c ∧ L.Pairwise (· ≤ ·) ∧ (∀ id ∈ M, lastOf ms id ∈ L) ∧ Below w.heap.size w w' := by
  have hBl : B < w.heap.size := heap_lt hB
  have hc : w.cell? ⟨B, 0, none⟩ = some (.map (some b)) := by simp [World.cell?, hB]
  obtain ⟨D0, hown, h2, h3⟩ := hf
  have hsz := hown.size_le
  have hseq := values_gives Fence.wide 2 trivial rfl (by omega) B b c D0 w hBl hc hown
  have cS := AnyZI.sorted_in Try.sortedA Fence.wide 5 trivial trivial trivial trivial rfl (by omega) (sorts_ints _) (enters_of Try.func43 (by kernel_rfl) rfl) 44 #[.pointer (some ⟨B, 0, none⟩)] trivial (enters_of Try.func44 (by kernel_rfl) rfl) _ _ (by unfold maxLen; omega) (by omega) _ hseq
  change CallsIn _ _ Try.prog 27 _ _ _ at cS
  refine ((callsIn_wide (n := 5)).1 cS).mono ?_
  rintro e w' ⟨v, ss, rfl, ⟨ps, ⟨p1, p2, p3⟩, rfl⟩, hrow, _, hb⟩
  refine ⟨v, _, rfl, ?_, ?_, sort_rises (ps.map (·.2)), fun id hid => ?_, hb⟩
  · unfold Ir
    rw [List.length_mergeSort]; exact hrow
  · rw [List.length_mergeSort, List.length_map]; omega
  · rw [List.mem_mergeSort]
    have hh : Maps.has D0 (.int .i64 id) = true := by rw [h2, cm_some, List.contains_iff_mem]; exact hid
    obtain ⟨p, hp, e⟩ := List.mem_map.1 ((p2 id).2 hh)
    have e3 := p3 p hp (.lit (.int .i64 0))
    rw [e, h3 id] at e3
    have e4 : (cmOf M ms id).getD 0 = lastOf ms id := by unfold cmOf; rw [if_pos (by rw [List.contains_iff_mem]; exact hid)]; rfl
    rw [e4] at e3
    simp only [DataW.lit.injEq, Lit.int.injEq, true_and] at e3
    rw [e3]; exact List.mem_map.2 ⟨p, hp, rfl⟩

set_option maxHeartbeats 2000000 in
set_option maxRecDepth 100000 in
theorem search_any (g : Nat) (cb : Array Value) (n : Nat) (p : Nat → Bool) (w : World) (eg : ∀ args w, (callFunc g args).run Try.prog w = .ok (.enter g args) w) (hsz : n ≤ 1000000000)
    (hf : ∀ (Y : World), Below w.heap.size w Y → ∀ i : Nat, i < n → Calls Try.prog g (#[.int .i64 i] ++ cb) Y fun e w' => e = .returned (.bool (p i)) ∧ Below Y.heap.size Y w') :
    Calls Try.prog 29 #[.int .i64 n, .func (.func g) #[] cb] w fun e w' => ∃ i : Nat, e = .returned (.int .i64 (i : Int)) ∧ i ≤ n ∧ (i ≠ 0 → p (i - 1) = false) ∧ (i < n → p i = true) ∧ Below w.heap.size w w' := by
  have HF := hide hf
  clear hf
  go_enter Try.func29, Try.ntmps29
  go_wp2
  go_loopg [5, 6] n (fun kx s5 s6 wr => ∃ (lo hi : Nat), s5 = .int .i64 lo ∧ s6 = .int .i64 hi ∧ lo ≤ hi ∧ hi ≤ n ∧ hi - lo ≤ kx ∧ Hid ((lo ≠ 0 → p (lo - 1) = false) ∧ (hi < n → p hi = true)) ∧ Hid (Below w.heap.size w wr))
  case atStart => exact ⟨0, n, rfl, rfl, Nat.zero_le _, Nat.le_refl _, by omega, (⟨fun h => absurd rfl h, fun h => absurd h (Nat.lt_irrefl _)⟩ : _ ∧ _), Below.refl _ _⟩
  case round =>
    obtain ⟨lo, hi, rfl, rfl, hlh, hin, hg, I, BEL⟩ := hrel
    by_cases hlt : lo < hi
    · have hc := unhide HF wr (unhide BEL) ((lo + hi) / 2) (by omega)
      rw [show (((lo + hi) / 2 : Nat) : Int) = ((lo : Int) + (hi : Int)) / 2 by omega] at hc
      cases hp : p ((lo + hi) / 2) <;> rw [hp] at hc
      · have HP := hide hp
        clear hp
        go_wp2_with (go_at_fn g; refine hc.mono ?_; rintro e w' ⟨rfl, b1⟩)
        have B1 := hide ((unhide BEL).trans (b1.mono (unhide BEL).size))
        go_roundg (hi - ((lo + hi) / 2 + 1))
        case measure => omega
        case rel =>
          exact ⟨(lo + hi) / 2 + 1, hi, by rw [show ((lo : Int) + (hi : Int)) / 2 + 1 = (((lo + hi) / 2 + 1 : Nat) : Int) by omega], rfl, by omega, hin, Nat.le_refl _, (⟨fun _ => by rw [Nat.add_sub_cancel]; exact unhide HP, (unhide I).2⟩ : _ ∧ _), unhide B1⟩
      · have HP := hide hp
        clear hp
        go_wp2_with (go_at_fn g; refine hc.mono ?_; rintro e w' ⟨rfl, b1⟩)
        have B1 := hide ((unhide BEL).trans (b1.mono (unhide BEL).size))
        go_roundg ((lo + hi) / 2 - lo)
        case measure => omega
        case rel =>
          exact ⟨lo, (lo + hi) / 2, rfl, by rw [show ((lo : Int) + (hi : Int)) / 2 = (((lo + hi) / 2 : Nat) : Int) by omega], by omega, by omega, Nat.le_refl _, (⟨(unhide I).1, fun _ => unhide HP⟩ : _ ∧ _), unhide B1⟩
    · obtain rfl : hi = lo := by omega
      go_wp2
      go_ret
      exact ⟨hi, rfl, hin, (unhide I).1, (unhide I).2, unhide BEL⟩
end Go.Proofs.Ytjcidihcmbenhaa
