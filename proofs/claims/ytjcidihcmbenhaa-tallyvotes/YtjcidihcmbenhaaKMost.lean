/- conf.most, conf.Joint, conf.Quorum: contracts. -/
import Derived.Test.YtjcidihcmbenhaaKConcat
namespace Go.Proofs.Ytjcidihcmbenhaa
open Go.RowKit

theorem cnt_succ {xs : List Int} {k : Nat} (h : k < xs.length) (ys : List Int) : cnt (xs.take (k + 1)) ys = cnt (xs.take k) ys + if ys.contains (xs.getD k 0) = true then 1 else 0 := by
  rw [take_succ xs 0 k h]
  unfold cnt
  rw [List.countP_append, List.countP_cons, List.countP_nil]; simp
theorem cnt_yes {xs ys : List Int} {k C : Nat} (h : k < xs.length) (hC : cnt (xs.take k) ys = C) (hy : ys.contains (xs.getD k 0) = true) : cnt (xs.take (k + 1)) ys = C + 1 := by rw [cnt_succ h, if_pos hy, hC]
theorem cnt_no {xs ys : List Int} {k C : Nat} (h : k < xs.length) (hC : cnt (xs.take k) ys = C) (hy : ys.contains (xs.getD k 0) = false) : cnt (xs.take (k + 1)) ys = C := by rw [cnt_succ h, if_neg (by rw [hy]; exact Bool.false_ne_true), hC]; rfl
theorem lt_le {xs : List Int} (h : xs.Pairwise (· < ·)) : xs.Pairwise (· ≤ ·) := h.imp (by intro a b h; omega)

set_option maxHeartbeats 1000000 in
theorem most_any (ao : Option Addr) (n c : Nat) (xs : List Int) (hn : xs.length = n) (hl : n ≤ 1000000) (ay : Option Addr) (m d : Nat) (ys : List Int) (hm : ys.length = m) (hlm : m ≤ 1000000) (hs : ys.Pairwise (· < ·)) (w : World) (hx : IntsR w ao xs) (hy : Fr w ay ys) :
    Calls Try.prog 45 #[.slice ao n c, .slice ay m d] w fun e w' => e = .returned (.bool (half xs ys)) ∧ Below w.heap.size w w' := by
  have HX := hide hx
  have HY := hide hy
  have HN := hide hn
  have HS := hide (lt_le hs)
  have HM := hide hm
  obtain ⟨R, hR⟩ : ∃ R, half xs ys = R := ⟨_, rfl⟩
  rw [hR]
  have HR := hide hR
  clear hx hy hn hs hm hR
  go_enter Try.func45, Try.ntmps45
  go_wp2_with fail
  go_loopw [12, 5, 7, 8, 9] (fun i s _ _ _ wr => ∃ (k C : Nat), k ≤ n ∧ i = .int .i64 k ∧ s = .int .i64 C ∧ cnt (xs.take k) ys = C ∧ C ≤ k ∧ Below w.heap.size w wr) (fun i _ _ _ _ _ => n - (intOf i).toNat)
  case atStart => exact ⟨0, 0, Nat.zero_le _, rfl, rfl, by simp [cnt], Nat.le_refl _, Below.refl _ _⟩
  case round =>
    obtain ⟨k, C, hk, rfl, rfl, hC, hCk, hbel⟩ := hrel
    have BEL := hide hbel
    have HC := hide hC
    clear hbel hC
    by_cases hlt : k < n
    · obtain ⟨a1, rfl, h1⟩ := (unhide HX) k (by rw [unhide HN]; exact hlt)
      have c1 : wr.cell? (a1.add k) = some (.int .i64 (xs.getD k 0)) := by rw [(unhide BEL).cell (blk_lt h1)]; exact h1
      have q : (k : Int) < n := by omega
      have YES := hide (cnt_yes (xs := xs) (ys := ys) (k := k) (by rw [unhide HN]; exact hlt) (unhide HC))
      have NO := hide (cnt_no (xs := xs) (ys := ys) (k := k) (by rw [unhide HN]; exact hlt) (unhide HC))
      obtain ⟨x, hxk⟩ : ∃ x, xs.getD k 0 = x := ⟨_, rfl⟩
      rw [hxk] at c1 YES NO
      have BS := hide (bs_fr ay m d ys (unhide HM) hlm x wr ((unhide HY).below (unhide BEL)) (unhide HS))
      clear h1 hxk
      obtain ⟨r, hr⟩ : ∃ r, ys.contains x = r := ⟨_, rfl⟩
      rw [hr] at BS YES NO
      clear hr
      go_wp2_with fail
      refine (unhide BS).mono ?_
      rintro e w1 ⟨z, rfl, b1⟩
      have B1 := hide ((unhide BEL).trans (b1.mono (unhide BEL).size))
      clear b1 BS
      cases r
      · have N1 := hide (unhide NO rfl)
        clear NO YES
        go_wp2
        go_roundw
        case rel => exact ⟨k + 1, C, by omega, by go_num, rfl, unhide N1, by omega, unhide B1⟩
        case measure => simp [intOf]; omega
      · have N1 := hide (unhide YES rfl)
        clear NO YES
        go_wp2
        go_roundw
        case rel => exact ⟨k + 1, C + 1, by omega, by go_num, by go_num, unhide N1, by omega, unhide B1⟩
        case measure => simp [intOf]; omega
    · obtain rfl : k = n := by omega
      have hf : half xs ys = decide ((k : Int) / 2 < (C : Int)) := by
        have e : cnt xs ys = C := by rw [← unhide HC, ← unhide HN, List.take_length]
        unfold half
        rw [e, unhide HN]
        rw [decide_eq_decide]; omega
      obtain rfl : decide ((k : Int) / 2 < (C : Int)) = R := by rw [← hf]; exact unhide HR
      clear hf HR
      go_wp2
      go_ret
      exact ⟨rfl, unhide BEL⟩

set_option maxHeartbeats 1000000 in
theorem joint_any (vo vn : Value) (ao : Option Addr) (n c : Nat) (hv : vo = .slice ao n c) (w : World) :
    Calls Try.prog 46 #[.agg #[vo, vn]] w fun e w' => e = .returned (.bool (decide (0 < n))) ∧ Below w.heap.size w w' := by
  subst hv
  go_enter Try.func46, Try.ntmps46
  go_wp2
  go_ret
  exact ⟨rfl, (Below.refl _ w).alloc (Nat.le_refl _) _⟩

/-! ### a configuration in a box -/
theorem two_cells {w : World} {B : Nat} {x y : Value} {t : TypeId} {fr : Nat × Nat} (h : w.heap[B]? = some (.cells #[x, y] t fr)) : w.cell? ⟨B, 0, none⟩ = some x ∧ w.cell? ⟨B, 1, none⟩ = some y := by
  constructor <;> simp [World.cell?, h]
theorem box_at (w : World) (o : Obj) : (w.alloc o).heap[w.heap.size]? = some o := heap_alloc_new _ _
theorem box_kept {w w' : World} {o : Obj} (hb : Below (w.alloc o).heap.size (w.alloc o) w') : w'.heap[w.heap.size]? = some o := by
  rw [hb.block w.heap.size (by simp)]; exact box_at w o
theorem lies_one {w : World} {ao : Option Addr} {n c : Nat} {ys : List Int} (hn : ys.length = n) (h : IntsR w ao ys) : Lies (w.alloc (.cells #[.slice ao n c] 24)) ⟨w.heap.size, 0, none⟩ [(.slice ao n c, ys)] := fun i p hp => by
  match i, hp with
  | 0, hp =>
    simp at hp; subst hp
    exact ⟨news_at (W := w) (cs := #[.slice ao n c]) (t := 24) 0 _ rfl, ao, n, c, rfl, hn, h.below ((Below.refl _ w).alloc (Nat.le_refl _) _)⟩
  | i + 1, hp => simp at hp
/-- Old is empty just where it has no members. -/
theorem empty_len {xs : List Int} {n : Nat} (h : xs.length = n) : xs.isEmpty = !decide (0 < n) := by
  cases xs with
  | nil => simp at h; subst h; rfl
  | cons x xs => simp at h; subst h; simp

set_option maxHeartbeats 2000000 in
theorem quorum_any (ao an : Option Addr) (no nn co cn : Nat) (old new : List Int) (hno : old.length = no) (hnn : new.length = nn) (ay : Option Addr) (m d : Nat) (ys : List Int) (hm : ys.length = m) (hlo : no ≤ 1000000) (hln : nn ≤ 1000000) (hlm : m ≤ 1000000) (w : World) (ho : IntsR w ao old) (hw : IntsR w an new) (hy : IntsR w ay ys) :
    Calls Try.prog 31 #[.agg #[.slice ao no co, .slice an nn cn], .slice ay m d] w fun e w' => e = .returned (.bool (quorumOf old new ys)) ∧ Below w.heap.size w w' := by
  obtain ⟨R, hR⟩ : ∃ R, quorumOf old new ys = R := ⟨_, rfl⟩
  obtain ⟨r, hr⟩ : ∃ r, half new ys = r := ⟨_, rfl⟩
  obtain ⟨r2, hr2⟩ : ∃ r2, half old ys = r2 := ⟨_, rfl⟩
  have HR : Hid ((r && (!decide (0 < no) || r2)) = R) := by
    show _ = _
    rw [← hR, ← hr, ← hr2]; unfold quorumOf; rw [empty_len hno]
  rw [hR]
  have HR1 := hide hr
  have HR2 := hide hr2
  clear hR hr hr2
  obtain ⟨W1, hW1⟩ : ∃ W1, w.alloc (.cells #[.slice ao no co, .slice an nn cn] 26) = W1 := ⟨_, rfl⟩
  have b1 : Below w.heap.size w W1 := by rw [← hW1]; exact (Below.refl _ w).alloc (Nat.le_refl _) _
  have s1 : W1.heap.size = w.heap.size + 1 := by rw [← hW1]; simp
  have x1 : W1.heap[w.heap.size]? = some (.cells #[.slice ao no co, .slice an nn cn] 26 (0, 0)) := by rw [← hW1]; exact box_at _ _
  obtain ⟨W2, hW2⟩ : ∃ W2, W1.alloc (.cells #[.slice ay m d] 24) = W2 := ⟨_, rfl⟩
  have b2 : Below W1.heap.size W1 W2 := by rw [← hW2]; exact (Below.refl _ W1).alloc (Nat.le_refl _) _
  have RS := hide (rising_any ⟨w.heap.size + 1, 0, none⟩ 1 1 [(.slice ay m d, ys)] rfl (by simp; omega) (by omega) W2 (by rw [← hW2, ← s1]; exact lies_one hm (hy.below b1)))
  have HW : Hid ((w.alloc (.cells #[.slice ao no co, .slice an nn cn] 26)).alloc (.cells #[.slice ay m d] 24) = W2) := by rw [hW1]; exact hW2
  have x2 := (b2.block w.heap.size (by omega)).trans x1
  have HX := hide x2
  have B2 := hide (b1.trans (b2.mono b1.size))
  have b12 := b1.trans (b2.mono b1.size)
  have HO := hide ho
  have HN := hide hw
  have EO := hide hno
  have EN := hide hnn
  have SZ : Hid (W2.heap.size = w.heap.size + 2) := by show W2.heap.size = w.heap.size + 2; rw [← hW2]; simp [s1]
  clear hW1 hW2 b1 b2 s1 x1 x2 ho hw hy hno hnn hm b12
  simp only [List.map_cons, List.map_nil, List.flatten_cons, List.flatten_nil, List.append_nil] at RS
  go_enter Try.func31, Try.ntmps31
  go_wp2_with fail
  rw [unhide HW]
  refine (unhide RS).mono ?_
  rintro e w3 ⟨az, ns, cs, rfl, hns, _, hlns, fs, b3⟩
  have B3 := hide ((unhide B2).trans (b3.mono (unhide B2).size))
  have x3 := (b3.block w.heap.size (by rw [unhide SZ]; omega)).trans (unhide HX)
  obtain ⟨c0, c1⟩ := two_cells x3
  have X3 := hide x3
  have M1 := hide (most_any an nn cn new (unhide EN) hln az ns cs (ris ys) hns hlns (ris_sorted ys) w3 ((unhide HN).below (Below.mono (unhide B3) (Nat.le_refl _))) fs)
  rw [half_ris, unhide HR1] at M1
  have FS := hide fs
  have ENS := hide hns
  clear RS HW b3 x3 fs hns HX B2
  go_wp2_with fail
  refine (unhide M1).mono ?_
  rintro e w4 ⟨rfl, b4⟩
  have s3 := (unhide B3).size
  have B4 := hide ((unhide B3).trans (b4.mono s3))
  have hlt : w.heap.size < w3.heap.size := by
    have := (unhide X3)
    by_cases hh : w.heap.size < w3.heap.size
    · exact hh
    · rw [Array.getElem?_eq_none (by omega)] at this; cases this
  have x4 := (b4.block w.heap.size hlt).trans (unhide X3)
  obtain ⟨c2, c3⟩ := two_cells x4
  have X4 := hide x4
  have J := hide (joint_any (.slice ao no co) (.slice an nn cn) ao no co rfl w4)
  have F4 := hide ((unhide FS).below b4)
  clear c0 c1 x4 X3 M1 b4 s3 hlt B3 FS
  cases r
  · obtain rfl : false = R := unhide HR
    go_wp2
    go_ret
    exact ⟨rfl, unhide B4⟩
  · go_wp2_with fail
    refine (unhide J).mono ?_
    rintro e w5 ⟨rfl, b5⟩
    have s4 := (unhide B4).size
    have B5 := hide ((unhide B4).trans (b5.mono s4))
    have hlt : w.heap.size < w4.heap.size := by
      have := (unhide X4)
      by_cases hh : w.heap.size < w4.heap.size
      · exact hh
      · rw [Array.getElem?_eq_none (by omega)] at this; cases this
    have x5 := (b5.block w.heap.size hlt).trans (unhide X4)
    obtain ⟨c4, c5⟩ := two_cells x5
    by_cases h0 : 0 < no
    · have e0 : decide (0 < no) = true := decide_eq_true h0
      have M2 := hide (most_any ao no co old (unhide EO) hlo az ns cs (ris ys) (unhide ENS) hlns (ris_sorted ys) w5 ((unhide HO).below (Below.mono (unhide B5) (Nat.le_refl _))) ((unhide F4).below b5))
      rw [half_ris, unhide HR2] at M2
      rw [e0] at HR ⊢
      clear c2 c3 x5 J b5 s4 hlt h0 e0 B4
      go_wp2_with fail
      refine (unhide M2).mono ?_
      rintro e w6 ⟨rfl, b6⟩
      have B6 := hide ((unhide B5).trans (b6.mono (unhide B5).size))
      clear b6 M2
      obtain rfl : r2 = R := by rw [← unhide HR]; simp
      clear HR
      go_wp2
      go_ret
      exact ⟨rfl, unhide B6⟩
    · have e0 : decide (0 < no) = false := decide_eq_false h0
      rw [e0] at HR ⊢
      obtain rfl : true = R := by rw [← unhide HR]; simp
      clear c2 c3 x5 J b5 s4 hlt h0 e0 B4 HR
      go_wp2
      go_ret
      exact ⟨rfl, unhide B5⟩
end Go.Proofs.Ytjcidihcmbenhaa
