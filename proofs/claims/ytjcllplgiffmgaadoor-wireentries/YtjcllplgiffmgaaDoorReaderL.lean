/- wire's reader: text, list: contracts. -/
import Derived.Test.YtjcllplgiffmgaaDoorReaderI
namespace Go.Proofs.YtjcllplgiffmgaaDoor
open Go.RowKit

set_option maxHeartbeats 1000000 in
theorem dtext_any (base p : Nat) (ao : Option Addr) (n cap : Nat) (s : Nat × Nat) (bs : List Nat) (w : World) (h : Re base w p ao n cap s.1 s.2) (hs : Src base w ao n cap bs) (hbase : base ≤ w.heap.size) :
    Calls Tryd.prog 65 #[.pointer (some ⟨p, 0, none⟩)] w fun e w' => e = .returned (.string (str (rtext bs s).1)) ∧ Re base w' p ao n cap (rtext bs s).2.1 (rtext bs s).2.2 ∧ Only base [113] w w' := by
  have U := hide (druled_any base p 4 (by decide) ao n cap s bs w h hs hbase)
  have HS := hide hs
  have hk := rrule_le bs 4 s
  have E1 : Hid (rtext bs s = (taken bs (rrule bs 4 s).1 (rrule bs 4 s).2, rtake n (rrule bs 4 s).1 (rrule bs 4 s).2)) := by show _ = _; unfold rtext; rw [hs.len]
  clear h hs
  generalize rrule bs 4 s = r at *
  obtain ⟨k, t1, t2⟩ := r
  go_enter Tryd.func65, Tryd.ntmps65
  go_wp2_with fail
  refine (unhide U).mono ?_
  rintro e w1 ⟨rfl, r1, k1⟩
  have T := hide (take_any base p ao n cap t1 t2 bs (unhide HS).len k w1 r1 (Nat.le_trans hbase k1.size) (fun w' ho => (unhide HS).stay w' (k1.trans ho)) (unhide HS).room (unhide HS).nul (unhide HS).big (Nat.le_trans hk (by decide)))
  have K1 := hide k1
  clear U r1 k1
  go_wp2_with fail
  refine (unhide T).mono ?_
  rintro e w2 ⟨ao2, m2, cap2, rfl, l2, b2, _, _, r2, k2⟩
  have cv := conv_str (cap := cap2) b2 l2
  have R2 := hide r2
  have K2 := hide k2
  clear T r2 k2 b2 l2
  go_wp2
  go_ret
  rw [unhide E1]
  exact ⟨rfl, unhide R2, (unhide K1).trans (unhide K2)⟩

/-- what list's loop makes in k rounds. -/
def rlistN (bs : List Nat) : Nat → (Nat × Nat) → List Int × (Nat × Nat)
  | 0, s => ([], s)
  | k + 1, s => ((rlistN bs k s).1 ++ [rint bs (rlistN bs k s).2], rtake bs.length 8 (rlistN bs k s).2)
theorem rlistN_len (bs : List Nat) (k : Nat) (s : Nat × Nat) : (rlistN bs k s).1.length = k := by
  induction k with
  | zero => rfl
  | succ k ih => simp [rlistN, ih]
/-- what list answers, and does. -/
def rlist (bs : List Nat) (q : Nat) (s : Nat × Nat) : List Int × (Nat × Nat) := rlistN bs (rrule bs q s).1 (rrule bs q s).2
def i64s (ys : List Int) : List Value := ys.map (Value.int .i64)
theorem one_int (a : Int) : ∀ u ∈ [Value.int .i64 a], u.oneCell' = true := by intro u hu; simp only [List.mem_cons, List.not_mem_nil, or_false] at hu; subst hu; rfl
theorem Tryd.info_int : (Tryd.prog.info? 3).map (fun i => (i.zero, i.size, i.bytes)) = some (some (.int .i64 0), 1, 8) := by kernel_rfl
theorem Re.own {base b : Nat} {w w' : World} {p : Nat} {ao : Option Addr} {n cap pos er : Nat} (h : Re base w p ao n cap pos er) {ts : List TypeId} (hk : Only b ts w w') (h1 : 113 ∉ ts) (h2 : 126 ∉ ts) : Re base w' p ao n cap pos er := by
  obtain ⟨ev, hp, hb, he, hpos⟩ := h
  exact ⟨ev, by rw [hk.block hp h1], hb, he.only hk h2, hpos⟩

set_option maxHeartbeats 2000000 in
theorem dlist_any (base p q : Nat) (hq : q < 7) (ao : Option Addr) (n cap : Nat) (s : Nat × Nat) (bs : List Nat) (w : World) (h : Re base w p ao n cap s.1 s.2) (hs : Src base w ao n cap bs) (hbase : base ≤ w.heap.size) :
    Calls Tryd.prog 66 #[.pointer (some ⟨p, 0, none⟩), .int .i64 q] w fun e w' => ∃ v, e = .returned v ∧ w'.ownsRow w.heap.size 3 1 v (rlist bs q s).1.length (i64s (rlist bs q s).1) ∧ Re base w' p ao n cap (rlist bs q s).2.1 (rlist bs q s).2.2 ∧ Only base [113] w w' := by
  have U := hide (druled_any base p q hq ao n cap s bs w h hs hbase)
  have HS := hide hs
  have hk := rrule_le bs q s
  have E1 : Hid (rlist bs q s = rlistN bs (rrule bs q s).1 (rrule bs q s).2) := by show _ = _; rfl
  have HN : Hid (bs.length = n) := hs.len
  clear h hs
  generalize rrule bs q s = r at *
  obtain ⟨k, t⟩ := r
  obtain ⟨i0, hi, hz0, hz1, hz2⟩ := info_parts Tryd.info_int
  go_enter Tryd.func66, Tryd.ntmps66
  go_wp2_with fail
  refine (unhide U).mono ?_
  rintro e w1 ⟨rfl, r1, k1⟩
  have R1 := hide r1
  have K1 := hide k1
  have s1 : w.heap.size ≤ w1.heap.size := k1.size
  clear U r1 k1
  go_wp2_with fail
  go_loopg [5, 9] k (fun g lv iv wr => ∃ j : Nat, j + g = k ∧ iv = .int .i64 (j : Int) ∧ wr.ownsRow w.heap.size 3 1 lv j (i64s (rlistN bs j t).1) ∧ Re base wr p ao n cap (rlistN bs j t).2.1 (rlistN bs j t).2.2 ∧ Only base [113] w wr)
  case atStart => exact ⟨0, by omega, rfl, World.ownsRow_nil _ _ _ _, unhide R1, unhide K1⟩
  case round =>
    obtain ⟨j, hj, rfl, ho, hr, hon⟩ := hrel
    have HJ := hide hj
    have HO := hide ho
    have HON := hide hon
    have sr : w.heap.size ≤ wr.heap.size := hon.size
    have hjk : j ≤ k := by omega
    by_cases hlt : j < k
    · have I := hide (integer_any base p ao n cap (rlistN bs j t).2 bs wr hr ((unhide HS).only hon) (Nat.le_trans hbase sr))
      have ER : Hid (rlistN bs (j + 1) t = ((rlistN bs j t).1 ++ [rint bs (rlistN bs j t).2], rtake n 8 (rlistN bs j t).2)) := by show _ = _; rw [rlistN, unhide HN]
      clear hj ho hr hon
      generalize rint bs (rlistN bs j t).2 = y at *
      generalize rtake n 8 (rlistN bs j t).2 = u at *
      generalize (rlistN bs j t).1 = ys at *
      go_wp2_with fail
      refine (unhide I).mono ?_
      rintro e w2 ⟨rfl, r2, k2⟩
      have O2 := hide (own_only (unhide HO) k2 (by decide))
      have R2 := hide r2
      have K2 := hide ((unhide HON).trans k2)
      have s2 : w.heap.size ≤ w2.heap.size := Nat.le_trans sr k2.size
      clear I r2 k2 HO HON
      go_wp2_with (at_builtin; refine wpList_append_own _ rfl (.tmp 11) (.tmp 14) 22 rfl w.heap.size 3 i0 (.int .i64 0) 1 8 Tryd.underlying22 hi hz0 hz1 hz2 rfl (by decide) _ _ _ rfl ((unhide O2).alloc _) ⟨w2.heap.size, 0, none⟩ 1 1 _ rfl rfl news_at (one_int _) (by unfold maxLen; omega) (by omega) (by simp; omega) ?_)
      intro v3 w3 own3 grow3 _
      have p3 := (Only.refl w.heap.size [3] w2).alloc s2 (.cells #[.int .i64 y] 3)
      have p4 := p3.own ((unhide O2).alloc _) grow3 (by simp; omega) (Nat.le_refl _) (by simp)
      have R3 := hide ((unhide R2).own p4 (by decide) (by decide))
      have O3 := hide own3
      have K3 := hide ((unhide K2).fresh p4.below hbase)
      clear own3 grow3 p3 p4 R2 O2 K2
      go_wp2
      go_roundg (k - (j + 1))
      case measure => have := unhide HJ; omega
      case rel =>
        refine ⟨j + 1, by omega, by go_num, ?_, by rw [unhide ER]; exact unhide R3, unhide K3⟩
        rw [unhide ER]
        have h := unhide O3
        simp only [i64s, List.map_append, List.map_cons, List.map_nil] at h ⊢
        exact h
    · have ej : j = k := by omega
      subst ej
      have HR := hide hr
      clear hj ho hr hon
      go_wp2
      go_ret
      refine ⟨_, rfl, ?_, ?_, unhide HON⟩
      · rw [unhide E1]; simp only [rlistN_len]; exact unhide HO
      · rw [unhide E1]; exact unhide HR

/-! ### the same, of a reader under way -/
theorem rg_int {base : Nat} {w0 w : World} {p : Nat} {ao : Option Addr} {n cap : Nat} {bs : List Nat} {s : Nat × Nat} (h : Rg base w0 w p ao n cap bs s) :
    Calls Tryd.prog 64 #[.pointer (some ⟨p, 0, none⟩)] w fun e w' => e = .returned (.int .i64 (rint bs s)) ∧ Rg base w0 w' p ao n cap bs (rtake n 8 s) ∧ Only base [113] w w' := by
  refine (integer_any base p ao n cap s bs w h.1 h.2.1 h.2.2.1).mono ?_
  rintro e w' ⟨rfl, r, k⟩
  exact ⟨rfl, h.next r k, k⟩
theorem rg_rule {base : Nat} {w0 w : World} {p : Nat} {ao : Option Addr} {n cap : Nat} {bs : List Nat} {s : Nat × Nat} (q : Nat) (hq : q < 7) (h : Rg base w0 w p ao n cap bs s) :
    Calls Tryd.prog 63 #[.pointer (some ⟨p, 0, none⟩), .int .i64 q] w fun e w' => e = .returned (.int .i64 ((rrule bs q s).1 : Nat)) ∧ Rg base w0 w' p ao n cap bs (rrule bs q s).2 ∧ Only base [113] w w' := by
  refine (druled_any base p q hq ao n cap s bs w h.1 h.2.1 h.2.2.1).mono ?_
  rintro e w' ⟨rfl, r, k⟩
  exact ⟨rfl, h.next r k, k⟩
theorem rg_text {base : Nat} {w0 w : World} {p : Nat} {ao : Option Addr} {n cap : Nat} {bs : List Nat} {s : Nat × Nat} (h : Rg base w0 w p ao n cap bs s) :
    Calls Tryd.prog 65 #[.pointer (some ⟨p, 0, none⟩)] w fun e w' => e = .returned (.string (str (rtext bs s).1)) ∧ Rg base w0 w' p ao n cap bs (rtext bs s).2 ∧ Only base [113] w w' := by
  refine (dtext_any base p ao n cap s bs w h.1 h.2.1 h.2.2.1).mono ?_
  rintro e w' ⟨rfl, r, k⟩
  exact ⟨rfl, h.next r k, k⟩
theorem rg_list {base : Nat} {w0 w : World} {p : Nat} {ao : Option Addr} {n cap : Nat} {bs : List Nat} {s : Nat × Nat} (q : Nat) (hq : q < 7) (h : Rg base w0 w p ao n cap bs s) :
    Calls Tryd.prog 66 #[.pointer (some ⟨p, 0, none⟩), .int .i64 q] w fun e w' => ∃ v, e = .returned v ∧ w'.ownsRow w.heap.size 3 1 v (rlist bs q s).1.length (i64s (rlist bs q s).1) ∧ Rg base w0 w' p ao n cap bs (rlist bs q s).2 ∧ Only base [113] w w' := by
  refine (dlist_any base p q hq ao n cap s bs w h.1 h.2.1 h.2.2.1).mono ?_
  rintro e w' ⟨v, rfl, o, r, k⟩
  exact ⟨v, rfl, o, h.next r k, k⟩
end Go.Proofs.YtjcllplgiffmgaaDoor
