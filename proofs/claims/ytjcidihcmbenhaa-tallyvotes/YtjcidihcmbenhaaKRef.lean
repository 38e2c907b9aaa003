/- The reference's has, In, Joint, half: contracts. -/
import Derived.Test.YtjcidihcmbenhaaKCheck
namespace Go.Proofs.Ytjcidihcmbenhaa
open Go.RowKit

theorem has_step {xs : List Int} {k : Nat} (h : k < xs.length) (x : Int) : (xs.drop k).contains x = ((xs.getD k 0 == x) || (xs.drop (k + 1)).contains x) := by
  rw [drop_getD h, List.contains_cons, Bool.beq_comm]
set_option maxHeartbeats 1000000 in
theorem has_any (ao : Option Addr) (n c : Nat) (xs : List Int) (hn : xs.length = n) (hl : n ≤ 1000000) (x : Int) (w : World) (h : IntsR w ao xs) :
    Calls Try.prog 47 #[.slice ao n c, .int .i64 x] w fun e w' => e = .returned (.bool (xs.contains x)) ∧ Below w.heap.size w w' := by
  obtain ⟨r, hr⟩ : ∃ r, xs.contains x = r := ⟨_, rfl⟩
  rw [hr]
  have HX := hide h
  have HN := hide hn
  have HR := hide hr
  clear h hn hr
  go_enter Try.func47, Try.ntmps47
  go_wp2_with fail
  go_loopw [5] (fun i wr => ∃ k : Nat, k ≤ n ∧ i = .int .i64 k ∧ (xs.drop k).contains x = r ∧ Below w.heap.size w wr) (fun i _ => n - (intOf i).toNat)
  case atStart => exact ⟨0, Nat.zero_le _, rfl, unhide HR, Below.refl _ _⟩
  case round =>
    obtain ⟨k, hk, rfl, hc, hbel⟩ := hrel
    have BEL := hide hbel
    clear hbel
    by_cases hlt : k < n
    · obtain ⟨a1, rfl, h1⟩ := (unhide HX) k (by rw [unhide HN]; exact hlt)
      have c1 : wr.cell? (a1.add k) = some (.int .i64 (xs.getD k 0)) := by rw [(unhide BEL).cell (blk_lt h1)]; exact h1
      rw [has_step (by rw [unhide HN]; exact hlt)] at hc
      have q : (k : Int) < n := by omega
      obtain ⟨y, hy⟩ : ∃ y, xs.getD k 0 = y := ⟨_, rfl⟩
      rw [hy] at c1 hc
      have HC := hide hc
      clear h1 hy hc
      by_cases he : (y == x) = true
      · obtain rfl : true = r := by rw [← unhide HC, he]; rfl
        go_wp2
        go_ret
        exact ⟨rfl, unhide BEL⟩
      · have he : (y == x) = false := by simpa using he
        have HC2 : Hid ((xs.drop (k + 1)).contains x = r) := by
          have := unhide HC
          rw [he, Bool.false_or] at this; exact this
        clear HC
        go_wp2
        go_roundw
        case rel => exact ⟨k + 1, by omega, by go_num, unhide HC2, unhide BEL⟩
        case measure => simp [intOf]; omega
    · obtain rfl : false = r := by rw [← hc, List.drop_eq_nil_of_le (by rw [unhide HN]; omega)]; rfl
      clear hc
      go_wp2
      go_ret
      exact ⟨rfl, unhide BEL⟩

set_option maxHeartbeats 1000000 in
theorem half_any (ao : Option Addr) (n c : Nat) (xs : List Int) (hn : xs.length = n) (hl : n ≤ 1000000) (ay : Option Addr) (m d : Nat) (ys : List Int) (hm : ys.length = m) (hlm : m ≤ 1000000) (w : World) (hx : IntsR w ao xs) (hy : IntsR w ay ys) :
    Calls Try.prog 33 #[.slice ao n c, .slice ay m d] w fun e w' => e = .returned (.bool (half xs ys)) ∧ Below w.heap.size w w' := by
  have HX := hide hx
  have HY := hide hy
  have HN := hide hn
  have HM := hide hm
  obtain ⟨R, hR⟩ : ∃ R, half xs ys = R := ⟨_, rfl⟩
  rw [hR]
  have HR := hide hR
  clear hx hy hn hm hR
  go_enter Try.func33, Try.ntmps33
  go_wp2_with fail
  go_loopw [6, 5] (fun i s wr => ∃ (k C : Nat), k ≤ n ∧ i = .int .i64 k ∧ s = .int .i64 C ∧ cnt (xs.take k) ys = C ∧ C ≤ k ∧ Below w.heap.size w wr) (fun i _ _ => n - (intOf i).toNat)
  case atStart => exact ⟨0, 0, Nat.zero_le _, rfl, rfl, by simp [cnt], Nat.le_refl _, Below.refl _ _⟩
  case round =>
    obtain ⟨k, C, hk, rfl, rfl, hC, hCk, hbel⟩ := hrel
    have BEL := hide hbel
    have HC := hide hC
    clear hbel hC
    by_cases hlt : k < n
    · obtain ⟨a1, rfl, h1⟩ := (unhide HX) k (by rw [unhide HN]; exact hlt)
      have c1 : wr.cell? (a1.add k) = some (.int .i64 (xs.getD k 0)) := by rw [(unhide BEL).cell (blk_lt h1)]; exact h1
      have q : (k : Int) < n := by omega
      have YES := hide (cnt_yes (xs := xs) (ys := ys) (k := k) (by rw [unhide HN]; exact hlt) (unhide HC))
      have NO := hide (cnt_no (xs := xs) (ys := ys) (k := k) (by rw [unhide HN]; exact hlt) (unhide HC))
      obtain ⟨x, hxk⟩ : ∃ x, xs.getD k 0 = x := ⟨_, rfl⟩
      rw [hxk] at c1 YES NO
      have BS := hide (has_any ay m d ys (unhide HM) hlm x wr ((unhide HY).below (Below.mono (unhide BEL) (Nat.le_refl _))))
      clear h1 hxk
      obtain ⟨r, hr⟩ : ∃ r, ys.contains x = r := ⟨_, rfl⟩
      rw [hr] at BS YES NO
      clear hr
      go_wp2_with fail
      refine (unhide BS).mono ?_
      rintro e w1 ⟨rfl, b1⟩
      have B1 := hide ((unhide BEL).trans (b1.mono (unhide BEL).size))
      clear b1 BS
      cases r
      · have N1 := hide (unhide NO rfl)
        clear NO YES
        go_wp2
        go_roundw
        case rel => exact ⟨k + 1, C, by omega, by go_num, rfl, unhide N1, by omega, unhide B1⟩
        case measure => simp [intOf]; omega
      · have N1 := hide (unhide YES rfl)
        clear NO YES
        go_wp2
        go_roundw
        case rel => exact ⟨k + 1, C + 1, by omega, by go_num, by go_num, unhide N1, by omega, unhide B1⟩
        case measure => simp [intOf]; omega
    · obtain rfl : k = n := by omega
      have hf : half xs ys = decide ((k : Int) < 2 * (C : Int)) := by
        have e : cnt xs ys = C := by rw [← unhide HC, ← unhide HN, List.take_length]
        unfold half
        rw [e, unhide HN]
        rw [decide_eq_decide]; omega
      obtain rfl : decide ((k : Int) < 2 * (C : Int)) = R := by rw [← hf]; exact unhide HR
      clear hf HR
      go_wp2
      go_ret
      exact ⟨rfl, unhide BEL⟩
set_option maxHeartbeats 1000000 in
theorem rin_any (ao an : Option Addr) (no nn co cn : Nat) (old new : List Int) (hno : old.length = no) (hnn : new.length = nn) (hlo : no ≤ 1000000) (hln : nn ≤ 1000000) (x : Int) (w : World) (ho : IntsR w ao old) (hw : IntsR w an new) :
    Calls Try.prog 37 #[.agg #[.slice ao no co, .slice an nn cn], .int .i64 x] w fun e w' => e = .returned (.bool (inOf old new x)) ∧ Below w.heap.size w w' := by
  obtain ⟨W, hW, bW, xW, _⟩ := boxed w (.slice ao no co) (.slice an nn cn)
  have W0 := hide (has_any ao no co old hno hlo x W (ho.below bW))
  have W1 := hide (fun (Y : World) (h : Below W.heap.size W Y) => has_any an nn cn new hnn hln x Y ((hw.below bW).below h))
  obtain ⟨R, hR⟩ : ∃ R, inOf old new x = R := ⟨_, rfl⟩
  rw [hR]
  obtain ⟨r0, h0⟩ : ∃ r0, old.contains x = r0 := ⟨_, rfl⟩
  obtain ⟨r1, h1⟩ : ∃ r1, new.contains x = r1 := ⟨_, rfl⟩
  have HR : Hid ((r0 || r1) = R) := by
    show _ = _
    rw [← hR, ← h0, ← h1]; rfl
  rw [h0] at W0
  rw [h1] at W1
  have HW := hide hW
  have BW := hide bW
  have XW := hide xW
  clear hW bW xW hR h0 h1 ho hw hno hnn
  go_enter Try.func37, Try.ntmps37
  go_wp2_with fail
  rw [unhide HW]
  refine (unhide W0).mono ?_
  rintro e w1 ⟨rfl, b1⟩
  have B1 := hide ((unhide BW).trans (b1.mono (unhide BW).size))
  obtain ⟨c0, c1⟩ := two_cells (Below.stay b1 (unhide XW))
  have W2 := hide (unhide W1 _ b1)
  clear b1 W0 W1 HW
  cases r0
  · obtain rfl : r1 = R := unhide HR
    clear HR
    go_wp2_with fail
    refine (unhide W2).mono ?_
    rintro e w2 ⟨rfl, b2⟩
    have B2 := hide ((unhide B1).trans (b2.mono (unhide B1).size))
    clear b2 W2
    go_wp2
    go_ret
    exact ⟨rfl, unhide B2⟩
  · obtain rfl : true = R := unhide HR
    clear HR
    go_wp2
    go_ret
    exact ⟨rfl, unhide B1⟩
set_option maxHeartbeats 1000000 in
theorem rjoint_any (vo vn : Value) (ao : Option Addr) (n c : Nat) (hv : vo = .slice ao n c) (w : World) :
    Calls Try.prog 34 #[.agg #[vo, vn]] w fun e w' => e = .returned (.bool (decide (0 < n))) ∧ Below w.heap.size w w' := by
  subst hv
  go_enter Try.func34, Try.ntmps34
  go_wp2
  go_ret
  exact ⟨rfl, (Below.refl _ w).alloc (Nat.le_refl _) _⟩

end Go.Proofs.Ytjcidihcmbenhaa
