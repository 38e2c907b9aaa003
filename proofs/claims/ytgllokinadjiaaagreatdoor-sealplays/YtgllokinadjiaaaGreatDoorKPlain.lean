/- synodallaw8's Plain, known: contracts. slices.Equal and synodalref2.SameInts at slices of numbers: contracts. conf.Check, Members, In, Same: contracts. seal: isEngine, follows, wrong: contracts. -/
import Derived.Test.YtgllokinadjiaaaGreatDoorKPure
import Derived.Test.YtgllokinadjiaaaGreatDoorNBase
import Derived.Test.YtgllokinadjiaaaGreatDoorSTwin
import Derived.Test.YtgllokinadjiaaaGreatDoorWwReadPut
namespace Go.Proofs.YtgllokinadjiaaaGreatDoor
open Go.RowKit

theorem two_free {w : World} {B : Nat} {x y : Value} {t : TypeId} (h : w.heap[B]? = some (.cells #[x, y] t (0, 0))) : w.frozen? ⟨B, 0, none⟩ = false ∧ w.frozen? ⟨B, 1, none⟩ = false := by
  constructor <;> simp [World.frozen?, h]
theorem plain_full {β : Nat → Bool} {L : Nat} (h : (lst β 9).length = L) (h0 : ¬ L = 0) : plainOf β = lst β 9 := by
  unfold plainOf
  rw [if_neg (fun e => by rw [e] at h; simp at h; omega)]
theorem plain_zero {β : Nat → Bool} {L : Nat} (h : (lst β 9).length = L) (h0 : L = 0) : plainOf β = [0] := by
  unfold plainOf
  rw [if_pos (List.eq_nil_of_length_eq_zero (by omega))]

/-- what two stores into a box leave. -/
theorem two_end {w y : World} {B : Nat} {a b x0 x1 : Value} {t : TypeId} (hz : y.heap[B]? = some (.cells #[x0, x1] t (0, 0))) (hB : w.heap.size ≤ B) (hb : Below w.heap.size w y) :
    ((y.setCell ⟨B, 0, none⟩ a).setCell ⟨B, 1, none⟩ b).cell? ⟨B, 0, none⟩ = some a ∧ ((y.setCell ⟨B, 0, none⟩ a).setCell ⟨B, 1, none⟩ b).cell? ⟨B, 1, none⟩ = some b ∧
    Below w.heap.size w ((y.setCell ⟨B, 0, none⟩ a).setCell ⟨B, 1, none⟩ b) ∧ ∀ k, k ≠ B → ((y.setCell ⟨B, 0, none⟩ a).setCell ⟨B, 1, none⟩ b).heap[k]? = y.heap[k]? := by
  have hh : ((y.setCell ⟨B, 0, none⟩ a).setCell ⟨B, 1, none⟩ b).heap[B]? = some (.cells #[a, b] t (0, 0)) := by
    simp [World.setCell, Array.getElem?_modify, hz]
  obtain ⟨h1, h2⟩ := two_cells hh
  refine ⟨h1, h2, (hb.setCell (p := ⟨B, 0, none⟩) hB a).setCell (p := ⟨B, 1, none⟩) hB b, fun k hk => ?_⟩
  rw [Below.heap_setCell _ _ _ k hk, Below.heap_setCell _ _ _ k hk]
theorem IntsR.other {y W : World} {B : Nat} {ao : Option Addr} {xs : List Int} (h : IntsR y ao xs) (hk : ∀ k, k ≠ B → W.heap[k]? = y.heap[k]?) (hb : ∀ a, ao = some a → a.block ≠ B) : IntsR W ao xs := fun i hi => by
  obtain ⟨a, e, hc⟩ := h i hi
  refine ⟨a, e, ?_⟩
  rw [← hc]
  exact World.cell?_of_block (by rw [add_block]; exact hk _ (hb a e))
theorem Fr.other {y W : World} {B : Nat} {ao : Option Addr} {xs : List Int} (h : Fr y ao xs) (hk : ∀ k, k ≠ B → W.heap[k]? = y.heap[k]?) (hb : ∀ a, ao = some a → a.block ≠ B) : Fr W ao xs := ⟨h.1.other hk hb, h.2⟩
theorem Ir.blk {base : Nat} {w : World} {ao : Option Addr} {n c : Nat} {xs : List Int} (h : Ir base w (.slice ao n c) xs) : ∀ a, ao = some a → base ≤ a.block := fun a ha => by
  subst ha
  exact (h.lt a.block rfl).1

set_option maxHeartbeats 1000000 in
theorem plain_new (bits : Int) (w : World) : Calls Tryz.prog 10 #[.int .i64 bits] w fun e w' =>
    ∃ an n c, e = .returned (.agg #[.slice none 0 0, .slice an n c]) ∧ (plainOf (bitOf bits)).length = n ∧ n ≤ c ∧ Fr w' an (plainOf (bitOf bits)) ∧ Below w.heap.size w w' ∧ ∀ a, an = some a → w.heap.size ≤ a.block := by
  obtain ⟨W, hW⟩ : ∃ W, w.alloc (.cells #[.slice none 0 0, .slice none 0 0] 24) = W := ⟨_, rfl⟩
  have bW : Below w.heap.size w W := by rw [← hW]; exact (Below.refl _ w).alloc (Nat.le_refl _) _
  have xW : W.heap[w.heap.size]? = some (.cells #[.slice none 0 0, .slice none 0 0] 24 (0, 0)) := by rw [← hW]; exact box_at _ _
  have sW : w.heap.size < W.heap.size := by rw [← hW]; simp
  have LA := hide (list_any bits W)
  have HW := hide hW
  have BW := hide bW
  have XW := hide xW
  have SW := hide sW
  clear hW bW xW sW
  go_enter Tryz.func10, Tryz.ntmps10
  go_wp2_with fail
  rw [unhide HW]
  refine (unhide LA).mono ?_
  rintro e w1 ⟨v, rfl, o1, b1⟩
  have B1 := hide ((unhide BW).trans (b1.mono (unhide BW).size))
  have x1 := (b1.block w.heap.size (unhide SW)).trans (unhide XW)
  obtain ⟨c0, c1⟩ := two_cells x1
  obtain ⟨f0, f1⟩ := two_free x1
  obtain ⟨ao, cap, rfl, fr, hc, _⟩ := o1.slice
  obtain ⟨L, hL⟩ : ∃ L, (lst (bitOf bits) 9).length = L := ⟨_, rfl⟩
  rw [hL] at hc ⊢
  have X1 := hide x1
  have FR := hide fr
  have HC := hide hc
  have HL := hide hL
  have BLK : Hid (∀ a, ao = some a → w.heap.size < a.block) := fun a ha => by
    have := o1.blk a ha
    have := unhide SW
    omega
  have HLT : Hid (w.heap.size < w1.heap.size) := by
    show w.heap.size < w1.heap.size
    exact Nat.lt_of_lt_of_le (unhide SW) b1.size
  clear o1 b1 x1 fr hc hL LA HW BW XW SW
  by_cases h0 : L = 0
  · have PZ := hide (plain_zero (unhide HL) h0)
    subst h0
    obtain ⟨W4, hW4⟩ : ∃ W4, w1.alloc (.cells #[.int .i64 0] 3) = W4 := ⟨_, rfl⟩
    have b4 : Below w1.heap.size w1 W4 := by rw [← hW4]; exact (Below.refl _ w1).alloc (Nat.le_refl _) _
    have x4 := (b4.block w.heap.size (unhide HLT)).trans (unhide X1)
    have I4 : Hid (IntsR W4 (some ⟨w1.heap.size, 0, none⟩) [0]) := by rw [← hW4]; exact one_int w1 0
    have HW4 := hide hW4
    have X4 := hide x4
    have B4 := hide ((unhide B1).trans (b4.mono (unhide B1).size))
    obtain ⟨d0, d1⟩ := two_cells x4
    obtain ⟨g0, g1⟩ := two_free x4
    clear hW4 b4 x4 c0 c1 f0 f1
    go_upto_region 4 with fail
    rw [unhide HW4]
    clear HW4
    go_wp2
    obtain ⟨r0, r1, rb, rk⟩ := two_end (a := .slice none 0 0) (b := .slice (some ⟨w1.heap.size, 0, none⟩) 1 1) (unhide X4) (Nat.le_refl _) (unhide B4)
    refine bodyPost_ret (v := .agg #[.slice none 0 0, .slice (some ⟨w1.heap.size, 0, none⟩) 1 1]) (by simp [results, Tryz.results10, go_sem, r0, r1]) rfl ⟨_, _, _, rfl, by rw [unhide PZ]; rfl, Nat.le_refl _, ?_, rb, fun a ha => by cases ha; exact Nat.le_of_lt (unhide HLT)⟩
    rw [unhide PZ]
    have hlt := unhide HLT
    exact ⟨(unhide I4).other rk (fun a ha => by cases ha; exact Nat.ne_of_gt hlt), fun a ha => by cases ha; exact ⟨_, _, rfl⟩⟩
  · have PF := hide (plain_full (unhide HL) h0)
    have h0' : ((L : Int) == 0) = false := by simp; omega
    clear h0
    go_upto_region 4 with fail
    clear h0'
    go_wp2
    obtain ⟨r0, r1, rb, rk⟩ := two_end (a := .slice none 0 0) (b := .slice ao L cap) (unhide X1) (Nat.le_refl _) (unhide B1)
    refine bodyPost_ret (v := .agg #[.slice none 0 0, .slice ao L cap]) (by simp [results, Tryz.results10, go_sem, r0, r1]) rfl ⟨_, _, _, rfl, by rw [unhide PF]; exact unhide HL, unhide HC, ?_, rb, fun a ha => Nat.le_of_lt (unhide BLK a ha)⟩
    rw [unhide PF]
    exact (unhide FR).other rk (fun a ha => Nat.ne_of_gt (unhide BLK a ha))
theorem plain_any (bits : Int) (w : World) : Calls Tryz.prog 10 #[.int .i64 bits] w fun e w' =>
    ∃ an n c, e = .returned (.agg #[.slice none 0 0, .slice an n c]) ∧ (plainOf (bitOf bits)).length = n ∧ n ≤ c ∧ Fr w' an (plainOf (bitOf bits)) ∧ Below w.heap.size w w' :=
  (plain_new bits w).mono fun _ _ ⟨an, n, c, h1, h2, h3, h4, h5, _⟩ => ⟨an, n, c, h1, h2, h3, h4, h5⟩
end Go.Proofs.YtgllokinadjiaaaGreatDoor
namespace Go.Proofs.YtgllokinadjiaaaGreatDoor
open Go.RowKit

set_option maxHeartbeats 1000000 in
theorem ysame_any (a b : Option Addr) (n m ca cb : Nat) (xs ys : List Int) (hx : xs.length = n) (hy : ys.length = m) (hl : n ≤ 1000000000) (w : World) (ha : IntsR w a xs) (hb : IntsR w b ys) :
    Calls Tryz.prog 50 #[.slice a n ca, .slice b m cb] w fun e w' => e = .returned (.bool (decide (xs = ys))) ∧ Below w.heap.size w w' := by
  have HA := hide ha
  have HB := hide hb
  have HX := hide hx
  have HY := hide hy
  clear ha hb hx hy
  by_cases hnm : n = m
  · subst hnm
    obtain ⟨r, hr⟩ : ∃ r, decide (xs = ys) = r := ⟨_, rfl⟩
    rw [hr]
    have HR := hide hr
    clear hr
    go_enter Tryz.func50, Tryz.ntmps50
    go_wp2_with fail
    go_loopw [5] (fun i wr => ∃ k : Nat, k ≤ n ∧ i = .int .i64 k ∧ (∀ j, j < k → xs.getD j 0 = ys.getD j 0) ∧ Below w.heap.size w wr) (fun i _ => n - (intOf i).toNat)
    case atStart => exact ⟨0, Nat.zero_le _, rfl, fun j hj => by omega, Below.refl _ _⟩
    case round =>
      obtain ⟨k, hk, rfl, hall, hbel⟩ := hrel
      have HALL := hide hall
      have BEL := hide hbel
      clear hall hbel
      by_cases hlt : k < n
      · obtain ⟨a1, rfl, h1⟩ := (unhide HA) k (by rw [unhide HX]; exact hlt)
        obtain ⟨b1, rfl, h2⟩ := (unhide HB) k (by rw [unhide HY]; exact hlt)
        have c1 : wr.cell? (a1.add k) = some (.int .i64 (xs.getD k 0)) := by rw [(unhide BEL).cell (blk_lt h1)]; exact h1
        have c2 : wr.cell? (b1.add k) = some (.int .i64 (ys.getD k 0)) := by rw [(unhide BEL).cell (blk_lt h2)]; exact h2
        have q : (k : Int) < n := by omega
        clear h1 h2
        by_cases he : xs.getD k 0 = ys.getD k 0
        · have HE := hide he
          obtain ⟨y, hyk⟩ : ∃ y, ys.getD k 0 = y := ⟨_, rfl⟩
          rw [he, hyk] at c1
          rw [hyk] at c2
          have hne : (y != y) = false := by simp
          clear he hyk
          go_wp2_with fail
          go_quiet (fail)
          go_wp2
          go_roundw
          case rel =>
            refine ⟨k + 1, by omega, by go_num, fun j hj => ?_, (unhide BEL).trans ((drewN_below _ _).mono (unhide BEL).size)⟩
            by_cases hjk : j < k
            · exact unhide HALL j hjk
            · obtain rfl : j = k := by omega
              exact unhide HE
          case measure => simp [intOf]; omega
        · have hne : (xs.getD k 0 != ys.getD k 0) = true := by rw [bne_iff_ne]; exact he
          have hrf : r = false := by
            rw [← unhide HR]; exact decide_eq_false (fun e => he (by rw [e]))
          subst hrf
          clear he
          generalize xs.getD k 0 = x at *
          generalize ys.getD k 0 = y at *
          go_wp2_with fail
          go_quiet (fail)
          go_wp2
          go_ret
          exact ⟨rfl, (unhide BEL).trans ((drewN_below _ _).mono (unhide BEL).size)⟩
      · have hrt : r = true := by
          rw [← unhide HR]; exact decide_eq_true (ext_getD (by rw [unhide HX, unhide HY]) (fun j hj => unhide HALL j (by rw [unhide HX] at hj; omega)))
        subst hrt
        go_wp2
        go_ret
        exact ⟨rfl, unhide BEL⟩
  · have hrf : decide (xs = ys) = false := decide_eq_false (fun e => hnm (by rw [← unhide HX, ← unhide HY, e]))
    rw [hrf]
    have hne : ((n : Int) != (m : Int)) = true := by rw [bne_iff_ne]; omega
    clear hrf
    go_enter Tryz.func50, Tryz.ntmps50
    go_wp2
    go_ret
    exact ⟨rfl, Below.refl _ _⟩

end Go.Proofs.YtgllokinadjiaaaGreatDoor
namespace Go.Proofs.YtgllokinadjiaaaGreatDoor
open Go.RowKit

theorem boxed (w : World) (x y : Value) : ∃ W, w.alloc (.cells #[x, y] 24) = W ∧ Below w.heap.size w W ∧ W.heap[w.heap.size]? = some (.cells #[x, y] 24 (0, 0)) ∧ W.heap.size = w.heap.size + 1 :=
  ⟨_, rfl, (Below.refl _ w).alloc (Nat.le_refl _) _, box_at _ _, by simp⟩
theorem wr_nat (n : Nat) (h : n ≤ 1000000) : IntKind.i64.wrap (n : Int) = (n : Int) := IntWalk.i64_in _ (by omega)

set_option maxHeartbeats 1000000 in
theorem check_any (ao an : Option Addr) (no nn co cn : Nat) (old new : List Int) (hno : old.length = no) (hnn : new.length = nn) (hlo : no ≤ 1000000000) (hln : nn ≤ 1000000000) (w : World) (ho : IntsR w ao old) (hw : IntsR w an new) :
    Calls Tryz.prog 61 #[.agg #[.slice ao no co, .slice an nn cn]] w fun e w' => e = .returned (.int .i64 ((checkOf old new : Nat) : Int)) ∧ Below w.heap.size w w' := by
  obtain ⟨W, hW, bW, xW, _⟩ := boxed w (.slice ao no co) (.slice an nn cn)
  have W0 := hide (wrong_any false 0 rfl ao no co old hno hlo W (ho.below bW))
  have W1 := hide (fun (Y : World) (h : Below W.heap.size W Y) => wrong_any true 1 rfl an nn cn new hnn hln Y ((hw.below bW).below h))
  obtain ⟨R, hR⟩ : ∃ R, checkOf old new = R := ⟨_, rfl⟩
  rw [hR]
  obtain ⟨r0, h0⟩ : ∃ r0, wrongOf false old = r0 := ⟨_, rfl⟩
  obtain ⟨r1, h1⟩ : ∃ r1, wrongOf true new = r1 := ⟨_, rfl⟩
  have HR : Hid ((if r0 = 0 then r1 else r0) = R) := by
    show _ = _
    rw [← hR, ← h0, ← h1]; rfl
  rw [h0] at W0
  rw [h1] at W1
  have HW := hide hW
  have BW := hide bW
  have XW := hide xW
  clear hW bW xW hR h0 h1 ho hw hno hnn
  go_enter Tryz.func61, Tryz.ntmps61
  go_wp2_with fail
  rw [unhide HW]
  refine (unhide W0).mono ?_
  rintro e w1 ⟨rfl, b1⟩
  have B1 := hide ((unhide BW).trans (b1.mono (unhide BW).size))
  obtain ⟨c0, c1⟩ := two_cells (Below.stay b1 (unhide XW))
  have W2 := hide (unhide W1 _ b1)
  clear b1 W0 W1 HW
  by_cases hz : r0 = 0
  · have HR2 : Hid (r1 = R) := by
      have := unhide HR
      rw [if_pos hz] at this; exact this
    subst hz
    clear HR
    go_wp2_with fail
    refine (unhide W2).mono ?_
    rintro e w2 ⟨rfl, b2⟩
    have B2 := hide ((unhide B1).trans (b2.mono (unhide B1).size))
    obtain rfl := unhide HR2
    clear b2 W2 HR2
    go_wp2
    go_ret
    exact ⟨rfl, unhide B2⟩
  · have hz' : ((r0 : Int) != 0) = true := by rw [bne_iff_ne]; omega
    obtain rfl : r0 = R := by
      have := unhide HR
      rw [if_neg hz] at this; exact this
    clear HR hz
    go_wp2
    go_ret
    exact ⟨rfl, unhide B1⟩

def inOf (old new : List Int) (x : Int) : Bool := old.contains x || new.contains x
end Go.Proofs.YtgllokinadjiaaaGreatDoor
namespace Go.Proofs.YtgllokinadjiaaaGreatDoor
open Go.RowKit Go.Maps

theorem isEngine_any (k : Int) (w : World) : Calls Tryz.prog 60 #[.int .i64 k] w fun e w' => e = .returned (.bool (decide (k = 1 ∨ k = 2))) ∧ w' = w := by
  by_cases h1 : k = 1
  · subst h1
    go_enter Tryz.func60, Tryz.ntmps60
    go_wp2
    go_ret
    exact ⟨rfl, rfl⟩
  · have q1 : (k == 1) = false := by simp [h1]
    by_cases h2 : k = 2
    · subst h2
      go_enter Tryz.func60, Tryz.ntmps60
      go_wp2
      go_ret
      exact ⟨rfl, rfl⟩
    · have q2 : (k == 2) = false := by simp [h2]
      have HD : Hid (decide (k = 1 ∨ k = 2) = false) := hide (decide_eq_false (by rintro (h | h) <;> contradiction))
      rw [unhide HD]
      clear h1 h2 HD
      go_enter Tryz.func60, Tryz.ntmps60
      go_wp2
      go_ret
      exact ⟨rfl, rfl⟩
/-- has it the number and the base of one that comes next? -/
def followsOf (gs : List Gn) (n base : Int) : Bool := match gs[gs.length - 1]? with
  | none => decide (1 ≤ n) && decide (0 ≤ base)
  | some l => (n == IntKind.i64.wrap (l.n + 1)) && decide (l.base < base)
theorem boxG (w : World) (n e b : Int) (xo mo : Option Addr) (xn xc m mc : Nat) : ∃ W, w.alloc (.cells #[.int .i64 n, .int .i64 e, .int .i64 b, .slice xo xn xc, .slice mo m mc] 26) = W ∧ Below w.heap.size w W ∧ W.heap[w.heap.size]? = some (.cells #[.int .i64 n, .int .i64 e, .int .i64 b, .slice xo xn xc, .slice mo m mc] 26 (0, 0)) :=
  ⟨_, rfl, (Below.refl _ w).alloc (Nat.le_refl _) _, box_at _ _⟩
set_option maxRecDepth 20000 in
set_option maxHeartbeats 1000000 in
theorem follows_nil {D : Nat → Prop} {w : World} {p : Nat} (h : Gs D w p []) (n e b : Int) (xo mo : Option Addr) (xn xc m mc : Nat) :
    Calls Tryz.prog 59 #[.pointer (some ⟨p, 0, none⟩), .agg #[.int .i64 n, .int .i64 e, .int .i64 b, .slice xo xn xc, .slice mo m mc]] w fun e w' => e = .returned (.bool (decide (1 ≤ n) && decide (0 ≤ b))) ∧ Below w.heap.size w w' := by
  obtain ⟨⟨rv, hbx, hrr⟩, hDp, hlt⟩ := h
  obtain ⟨ao, ca, rfl, -⟩ := hrr.slice
  obtain ⟨W, hW, bW, xW⟩ := boxG w n e b xo mo xn xc m mc
  have pc : W.cell? ⟨p, 0, none⟩ = some (.slice ao 0 ca) := (cell_of_block (Below.stay bW hbx)).trans rfl
  have k0 : W.cell? ⟨w.heap.size, 0, none⟩ = some (.int .i64 n) := (cell_of_block xW).trans rfl
  have k2 : W.cell? ⟨w.heap.size, 2, none⟩ = some (.int .i64 b) := (cell_of_block xW).trans rfl
  have HW := hide hW
  have BW := hide bW
  clear hbx hrr hDp hlt hW bW xW
  by_cases h1 : 1 ≤ n
  · by_cases h2 : 0 ≤ b
    · rw [decide_eq_true h1, decide_eq_true h2]
      go_enter Tryz.func59, Tryz.ntmps59
      go_upto_region 1 with fail
      rw [unhide HW]
      go_wp2
      go_ret
      exact ⟨rfl, unhide BW⟩
    · rw [decide_eq_true h1, decide_eq_false h2]
      go_enter Tryz.func59, Tryz.ntmps59
      go_upto_region 1 with fail
      rw [unhide HW]
      go_wp2
      go_ret
      exact ⟨rfl, unhide BW⟩
  · rw [decide_eq_false h1]
    go_enter Tryz.func59, Tryz.ntmps59
    go_upto_region 1 with fail
    rw [unhide HW]
    go_wp2
    go_ret
    exact ⟨rfl, unhide BW⟩
set_option maxRecDepth 20000 in
set_option maxHeartbeats 2000000 in
theorem follows_last {D : Nat → Prop} {w : World} {p : Nat} {gs : List Gn} (h : Gs D w p gs) (hl : gs.length ≤ 1000000) {l : Gn} (hg : gs[gs.length - 1]? = some l) (n e b : Int) (xo mo : Option Addr) (xn xc m mc : Nat) :
    Calls Tryz.prog 59 #[.pointer (some ⟨p, 0, none⟩), .agg #[.int .i64 n, .int .i64 e, .int .i64 b, .slice xo xn xc, .slice mo m mc]] w fun e w' => e = .returned (.bool ((n == IntKind.i64.wrap (l.n + 1)) && decide (l.base < b))) ∧ Below w.heap.size w w' := by
  obtain ⟨lo, lc, -, CLA⟩ := last_all h hl hg
  have hn0 : 0 < gs.length := by have := (List.getElem?_eq_some_iff.1 hg).1; omega
  obtain ⟨⟨rv, hbx, hrr⟩, hDp, hlt⟩ := h
  obtain ⟨ao, ca, rfl, -⟩ := hrr.slice
  obtain ⟨W, hW, bW, xW⟩ := boxG w n e b xo mo xn xc m mc
  obtain ⟨N, hN⟩ : ∃ N, gs.length = N := ⟨_, rfl⟩
  rw [hN] at hbx hn0
  have pc : W.cell? ⟨p, 0, none⟩ = some (.slice ao N ca) := (cell_of_block (Below.stay bW hbx)).trans rfl
  have f0 : ∀ s : Bel W, s.w.cell? ⟨w.heap.size, 0, none⟩ = some (.int .i64 n) := fun s => s.cell ((cell_of_block xW).trans rfl)
  have f2 : ∀ s : Bel W, s.w.cell? ⟨w.heap.size, 2, none⟩ = some (.int .i64 b) := fun s => s.cell ((cell_of_block xW).trans rfl)
  have CL := hide (fun s : Bel W => s.call (CLA s.w (below_far bW s.b)))
  obtain ⟨ln, le, lb, lms⟩ := l
  unfold gnV at CL
  simp only at CL ⊢
  obtain ⟨n1, hn1⟩ : ∃ n1, IntKind.i64.wrap (ln + 1) = n1 := ⟨_, rfl⟩
  rw [hn1]
  have FN := field_n
  have FB := field_base
  have q0 : ((N : Int) == 0) = false := by simp; omega
  have HW := hide hW
  have BW := hide bW
  clear hbx hrr hDp hlt hW bW xW CLA hg hn0 hN
  by_cases h1 : n = n1
  · subst h1
    by_cases h2 : lb < b
    · rw [decide_eq_true h2]
      go_enter Tryz.func59, Tryz.ntmps59
      go_upto_region 1 with fail
      rw [unhide HW]
      go_upto_region 3 with fail
      have nebel := Bel.ne W
      refine quiet_bel (by kernel_rfl) (by kernel_rfl) ?_
      repeat (go_big_quiet_step (first | exact unhide CL _ | fail))
      refine wpQuiet_nil ?_
      intro wq hwq
      have bq := Bel.of hwq
      clear hwq nebel
      go_wp2
      go_ret
      exact ⟨by simp, below_far (unhide BW) bq⟩
    · rw [decide_eq_false h2]
      go_enter Tryz.func59, Tryz.ntmps59
      go_upto_region 1 with fail
      rw [unhide HW]
      go_upto_region 3 with fail
      have nebel := Bel.ne W
      refine quiet_bel (by kernel_rfl) (by kernel_rfl) ?_
      repeat (go_big_quiet_step (first | exact unhide CL _ | fail))
      refine wpQuiet_nil ?_
      intro wq hwq
      have bq := Bel.of hwq
      clear hwq nebel
      go_wp2
      go_ret
      exact ⟨by simp, below_far (unhide BW) bq⟩
  · have q1 : (n == n1) = false := by simp [h1]
    rw [q1]
    clear h1
    go_enter Tryz.func59, Tryz.ntmps59
    go_upto_region 1 with fail
    rw [unhide HW]
    go_upto_region 3 with fail
    have nebel := Bel.ne W
    refine quiet_bel (by kernel_rfl) (by kernel_rfl) ?_
    repeat (go_big_quiet_step (first | exact unhide CL _ | fail))
    refine wpQuiet_nil ?_
    intro wq hwq
    have bq := Bel.of hwq
    clear hwq nebel
    go_wp2
    go_ret
    exact ⟨rfl, below_far (unhide BW) bq⟩
theorem follows_any {D : Nat → Prop} {w : World} {p : Nat} {gs : List Gn} (h : Gs D w p gs) (hl : gs.length ≤ 1000000) (n e b : Int) (xo mo : Option Addr) (xn xc m mc : Nat) :
    Calls Tryz.prog 59 #[.pointer (some ⟨p, 0, none⟩), .agg #[.int .i64 n, .int .i64 e, .int .i64 b, .slice xo xn xc, .slice mo m mc]] w fun e w' => e = .returned (.bool (followsOf gs n b)) ∧ Below w.heap.size w w' := by
  unfold followsOf
  cases hq : gs[gs.length - 1]? with
  | none =>
    obtain rfl : gs = [] := by
      rw [List.getElem?_eq_none_iff] at hq
      exact List.eq_nil_of_length_eq_zero (by omega)
    exact follows_nil h n e b xo mo xn xc m mc
  | some l => exact follows_last h hl hq n e b xo mo xn xc m mc
end Go.Proofs.YtgllokinadjiaaaGreatDoor
