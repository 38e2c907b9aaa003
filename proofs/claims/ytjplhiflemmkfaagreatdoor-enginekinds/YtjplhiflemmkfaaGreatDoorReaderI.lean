/- wire's reader: integer, ruled, text: contracts by what they do to the place and to the first flaw. wire's reader: text, list: contracts. -/
import Derived.Test.YtjplhiflemmkfaaGreatDoorReader
import Derived.Test.YtjplhiflemmkfaaGreatDoorWriterE
import Derived.Test.YtjplhiflemmkfaaGreatDoorWriterM
namespace Go.Proofs.YtjplhiflemmkfaaGreatDoor
open Go.RowKit

/-- the bytes that a reader reads. -/
structure Src (base : Nat) (w : World) (ao : Option Addr) (n m : Nat) (bs : List Nat) : Prop where
  len : bs.length = n
  room : n ≤ m
  nul : ao = none → m = 0
  big : n ≤ 1000000000000
  stay : ∀ w', Only base [357] w w' → Bytes w' ao bs
theorem Src.only {base : Nat} {w w' : World} {ao : Option Addr} {n m : Nat} {bs : List Nat} (h : Src base w ao n m bs) (ho : Only base [357] w w') : Src base w' ao n m bs :=
  ⟨h.len, h.room, h.nul, h.big, fun w2 h2 => h.stay w2 (ho.trans h2)⟩

theorem taken_le (bs : List Nat) (k : Nat) (s : Nat × Nat) : (taken bs k s).length ≤ k := by
  unfold taken; split
  · rw [List.length_take]; omega
  · simp
theorem taken_one (bs : List Nat) (s : Nat × Nat) (h : ∀ x ∈ taken bs 1 s, x < 256) : joinTo 0 (taken bs 1 s) < 256 := by
  have hl := taken_le bs 1 s
  generalize taken bs 1 s = l at *
  match l with
  | [] => simp [joinTo]
  | [x] => have := h x (by simp); simp [joinTo]; exact this
  | _ :: _ :: _ => simp at hl
theorem joined_n (ao : Option Addr) (n cap : Nat) (bs : List Nat) (hn : bs.length = n) (w : World) (hb : Bytes w ao bs) (hl : n ≤ 140737488355328) :
    Calls Tryz.prog 267 #[.slice ao n cap] w fun e w' => e = .returned (.int .u64 ((joinTo 0 bs : Nat) : Int)) ∧ w' = w := by
  subst hn
  cases ao with
  | none => exact joined_none cap bs w hb
  | some a => exact joined_some a cap bs w hb hl

/-- what integer answers. -/
def rint (bs : List Nat) (s : Nat × Nat) : Int := wrap64 ((joinTo 0 (taken bs 8 s) : Nat) : Int)

set_option maxHeartbeats 1000000 in
theorem integer_any (base p : Nat) (ao : Option Addr) (n cap : Nat) (s : Nat × Nat) (bs : List Nat) (w : World) (h : Re base w p ao n cap s.1 s.2) (hs : Src base w ao n cap bs) (hbase : base ≤ w.heap.size) :
    Calls Tryz.prog 304 #[.pointer (some ⟨p, 0, none⟩)] w fun e w' => e = .returned (.int .i64 (rint bs s)) ∧ Re base w' p ao n cap (rtake n 8 s).1 (rtake n 8 s).2 ∧ Only base [357] w w' := by
  have T := hide (take_any base p ao n cap s.1 s.2 bs hs.len 8 w h hbase hs.stay hs.room hs.nul hs.big (by decide))
  clear h hs
  go_enter Tryz.func304, Tryz.ntmps304
  go_wp2_with fail
  refine (unhide T).mono ?_
  rintro e w1 ⟨ao1, m1, cap1, rfl, l1, b1, _, c1, r1, k1⟩
  have hm := taken_le bs 8 (s.1, s.2)
  rw [l1] at hm
  have J := hide (joined_n ao1 m1 cap1 _ l1 w1 b1 (by omega))
  have R1 := hide r1
  have K1 := hide k1
  clear r1 k1 l1 b1 T
  go_wp2_with fail
  refine (unhide J).mono ?_
  rintro e w2 ⟨rfl, rfl⟩
  clear J
  go_wp2
  go_ret
  exact ⟨rfl, unhide R1, unhide K1⟩

/-- what ruled answers, and does. -/
def rrule (bs : List Nat) (q : Nat) (s : Nat × Nat) : Nat × (Nat × Nat) :=
  if refuse q (joinTo 0 (taken bs 1 s) : Nat) = 0 then (joinTo 0 (taken bs 1 s), rtake bs.length 1 s)
  else (0, ((rtake bs.length 1 s).1, if (rtake bs.length 1 s).2 = 0 then refuse q (joinTo 0 (taken bs 1 s) : Nat) else (rtake bs.length 1 s).2))

set_option maxHeartbeats 1000000 in
theorem druled_any (base p q : Nat) (hq : q < 7) (ao : Option Addr) (n cap : Nat) (s : Nat × Nat) (bs : List Nat) (w : World) (h : Re base w p ao n cap s.1 s.2) (hs : Src base w ao n cap bs) (hbase : base ≤ w.heap.size) :
    Calls Tryz.prog 305 #[.pointer (some ⟨p, 0, none⟩), .int .i64 q] w fun e w' => e = .returned (.int .i64 ((rrule bs q s).1 : Nat)) ∧ Re base w' p ao n cap (rrule bs q s).2.1 (rrule bs q s).2.2 ∧ Only base [357] w w' := by
  have T := hide (take_any base p ao n cap s.1 s.2 bs hs.len 1 w h hbase hs.stay hs.room hs.nul hs.big (by decide))
  have hbig := hs.big
  have e0 : bs.length = n := hs.len
  have e1 : rrule bs q s = if refuse q (joinTo 0 (taken bs 1 s) : Nat) = 0 then (joinTo 0 (taken bs 1 s), rtake n 1 s) else (0, ((rtake n 1 s).1, if (rtake n 1 s).2 = 0 then refuse q (joinTo 0 (taken bs 1 s) : Nat) else (rtake n 1 s).2)) := by unfold rrule; rw [e0]
  have E1 := hide e1
  clear h hs e0 e1
  go_enter Tryz.func305, Tryz.ntmps305
  go_wp2_with fail
  refine (unhide T).mono ?_
  rintro e w1 ⟨ao1, m1, cap1, rfl, l1, b1, _, c1, r1, k1⟩
  have hm := taken_le bs 1 (s.1, s.2)
  rw [l1] at hm
  have hv := taken_one bs (s.1, s.2) b1.1
  have J := hide (joined_n ao1 m1 cap1 _ l1 w1 b1 (by omega))
  have hsz := k1.size
  have R1 := hide r1
  have K1 := hide k1
  obtain ⟨ev1, hp1, hbp1, _, hpos1⟩ := r1
  have c1' : w1.cell? ⟨p, 1, none⟩ = some (.int .i64 (((rtake n 1 (s.1, s.2)).1 : Nat) : Int)) := (cell_of_block hp1).trans rfl
  clear k1 l1 b1 T hp1
  change Hid (rrule bs q s = if refuse q (joinTo 0 (taken bs 1 (s.1, s.2)) : Nat) = 0 then (joinTo 0 (taken bs 1 (s.1, s.2)), rtake n 1 (s.1, s.2)) else (0, ((rtake n 1 (s.1, s.2)).1, if (rtake n 1 (s.1, s.2)).2 = 0 then refuse q (joinTo 0 (taken bs 1 (s.1, s.2)) : Nat) else (rtake n 1 (s.1, s.2)).2))) at E1
  generalize rtake n 1 (s.1, s.2) = t at *
  generalize joinTo 0 (taken bs 1 (s.1, s.2)) = v at *
  obtain ⟨t1, t2⟩ := t
  go_wp2_with fail
  refine (unhide J).mono ?_
  rintro e w2 ⟨rfl, rfl⟩
  clear J
  go_wp2_with fail
  refine (refusal_any q hq (v : Int) w2).mono ?_
  rintro e w3 ⟨rfl, rfl⟩
  obtain ⟨rf, hrf⟩ : ∃ rf, refuse q (v : Int) = rf := ⟨_, rfl⟩
  rw [hrf] at E1 ⊢
  clear hrf
  by_cases hr : rf = 0
  · subst hr
    have e2 := unhide E1
    rw [if_pos rfl] at e2
    have E2 := hide e2
    clear E1 e2
    go_wp2
    go_ret
    rw [unhide E2]
    exact ⟨rfl, unhide R1, unhide K1⟩
  · have hri : ¬ (rf : Int) = 0 := by omega
    have e2 := unhide E1
    rw [if_neg hr] at e2
    have E2 := hide e2
    have HR := hide hr
    clear hr E1 e2
    go_wp2_with fail
    refine (fail_any base p ao n cap t1 t2 _ rf (unhide HR) w3 (unhide R1) (Nat.le_trans hbase hsz)).mono ?_
    rintro e w4 ⟨rfl, r4, k4⟩
    have R4 := hide r4
    have K4 := hide k4
    clear r4 k4
    go_wp2
    go_ret
    rw [unhide E2]
    exact ⟨rfl, unhide R4, (unhide K1).trans (unhide K4)⟩

/-- what text answers, and does. -/
def rtext (bs : List Nat) (s : Nat × Nat) : List Nat × (Nat × Nat) := (taken bs (rrule bs 4 s).1 (rrule bs 4 s).2, rtake bs.length (rrule bs 4 s).1 (rrule bs 4 s).2)
theorem rrule_le (bs : List Nat) (q : Nat) (s : Nat × Nat) : (rrule bs q s).1 ≤ 64 := by
  unfold rrule
  split
  · rename_i h; have := (refuse_range h).2; simp only; omega
  · simp
/-- a reader that is under way since w0. -/
def Rg (base : Nat) (w0 w : World) (p : Nat) (ao : Option Addr) (n cap : Nat) (bs : List Nat) (s : Nat × Nat) : Prop :=
  Re base w p ao n cap s.1 s.2 ∧ Src base w ao n cap bs ∧ base ≤ w.heap.size ∧ Only base [357] w0 w
theorem Rg.next {base : Nat} {w0 w w' : World} {p : Nat} {ao : Option Addr} {n cap : Nat} {bs : List Nat} {s s' : Nat × Nat} (h : Rg base w0 w p ao n cap bs s) (hr : Re base w' p ao n cap s'.1 s'.2) (hk : Only base [357] w w') : Rg base w0 w' p ao n cap bs s' :=
  ⟨hr, h.2.1.only hk, Nat.le_trans h.2.2.1 hk.size, h.2.2.2.trans hk⟩
theorem Only.fresh {base : Nat} {ts : List TypeId} {w w2 w3 : World} (h : Only base ts w w2) (hb : Below w.heap.size w2 w3) (hbase : base ≤ w.heap.size) : Only base ts w w3 := by
  refine ⟨h.1.trans (hb.mono hbase), fun k hk hn => ?_⟩
  rw [hb.block k hk]; exact h.2 k hk hn
end Go.Proofs.YtjplhiflemmkfaaGreatDoor
namespace Go.Proofs.YtjplhiflemmkfaaGreatDoor
open Go.RowKit

set_option maxHeartbeats 1000000 in
theorem dtext_any (base p : Nat) (ao : Option Addr) (n cap : Nat) (s : Nat × Nat) (bs : List Nat) (w : World) (h : Re base w p ao n cap s.1 s.2) (hs : Src base w ao n cap bs) (hbase : base ≤ w.heap.size) :
    Calls Tryz.prog 327 #[.pointer (some ⟨p, 0, none⟩)] w fun e w' => e = .returned (.string (str (rtext bs s).1)) ∧ Re base w' p ao n cap (rtext bs s).2.1 (rtext bs s).2.2 ∧ Only base [357] w w' := by
  have U := hide (druled_any base p 4 (by decide) ao n cap s bs w h hs hbase)
  have HS := hide hs
  have hk := rrule_le bs 4 s
  have E1 : Hid (rtext bs s = (taken bs (rrule bs 4 s).1 (rrule bs 4 s).2, rtake n (rrule bs 4 s).1 (rrule bs 4 s).2)) := by show _ = _; unfold rtext; rw [hs.len]
  clear h hs
  generalize rrule bs 4 s = r at *
  obtain ⟨k, t1, t2⟩ := r
  go_enter Tryz.func327, Tryz.ntmps327
  go_wp2_with fail
  refine (unhide U).mono ?_
  rintro e w1 ⟨rfl, r1, k1⟩
  have T := hide (take_any base p ao n cap t1 t2 bs (unhide HS).len k w1 r1 (Nat.le_trans hbase k1.size) (fun w' ho => (unhide HS).stay w' (k1.trans ho)) (unhide HS).room (unhide HS).nul (unhide HS).big (Nat.le_trans hk (by decide)))
  have K1 := hide k1
  clear U r1 k1
  go_wp2_with fail
  refine (unhide T).mono ?_
  rintro e w2 ⟨ao2, m2, cap2, rfl, l2, b2, _, _, r2, k2⟩
  have cv := conv_str (cap := cap2) b2 l2
  have R2 := hide r2
  have K2 := hide k2
  clear T r2 k2 b2 l2
  go_wp2
  go_ret
  rw [unhide E1]
  exact ⟨rfl, unhide R2, (unhide K1).trans (unhide K2)⟩

/-- what list's loop makes in k rounds. -/
def rlistN (bs : List Nat) : Nat → (Nat × Nat) → List Int × (Nat × Nat)
  | 0, s => ([], s)
  | k + 1, s => ((rlistN bs k s).1 ++ [rint bs (rlistN bs k s).2], rtake bs.length 8 (rlistN bs k s).2)
theorem rlistN_len (bs : List Nat) (k : Nat) (s : Nat × Nat) : (rlistN bs k s).1.length = k := by
  induction k with
  | zero => rfl
  | succ k ih => simp [rlistN, ih]
/-- what list answers, and does. -/
def rlist (bs : List Nat) (q : Nat) (s : Nat × Nat) : List Int × (Nat × Nat) := rlistN bs (rrule bs q s).1 (rrule bs q s).2
def i64s (ys : List Int) : List Value := ys.map (Value.int .i64)
theorem one_int (a : Int) : ∀ u ∈ [Value.int .i64 a], u.oneCell' = true := by intro u hu; simp only [List.mem_cons, List.not_mem_nil, or_false] at hu; subst hu; rfl
theorem Tryz.info_int : (Tryz.prog.info? 3).map (fun i => (i.zero, i.size, i.bytes)) = some (some (.int .i64 0), 1, 8) := by kernel_rfl
theorem Re.own {base b : Nat} {w w' : World} {p : Nat} {ao : Option Addr} {n cap pos er : Nat} (h : Re base w p ao n cap pos er) {ts : List TypeId} (hk : Only b ts w w') (h1 : 357 ∉ ts) (h2 : 315 ∉ ts) : Re base w' p ao n cap pos er := by
  obtain ⟨ev, hp, hb, he, hpos⟩ := h
  exact ⟨ev, by rw [hk.block hp h1], hb, he.only hk h2, hpos⟩

set_option maxHeartbeats 2000000 in
theorem dlist_any (base p q : Nat) (hq : q < 7) (ao : Option Addr) (n cap : Nat) (s : Nat × Nat) (bs : List Nat) (w : World) (h : Re base w p ao n cap s.1 s.2) (hs : Src base w ao n cap bs) (hbase : base ≤ w.heap.size) :
    Calls Tryz.prog 306 #[.pointer (some ⟨p, 0, none⟩), .int .i64 q] w fun e w' => ∃ v, e = .returned v ∧ w'.ownsRow w.heap.size 3 1 v (rlist bs q s).1.length (i64s (rlist bs q s).1) ∧ Re base w' p ao n cap (rlist bs q s).2.1 (rlist bs q s).2.2 ∧ Only base [357] w w' := by
  have U := hide (druled_any base p q hq ao n cap s bs w h hs hbase)
  have HS := hide hs
  have hk := rrule_le bs q s
  have E1 : Hid (rlist bs q s = rlistN bs (rrule bs q s).1 (rrule bs q s).2) := by show _ = _; rfl
  have HN : Hid (bs.length = n) := hs.len
  clear h hs
  generalize rrule bs q s = r at *
  obtain ⟨k, t⟩ := r
  obtain ⟨i0, hi, hz0, hz1, hz2⟩ := info_parts Tryz.info_int
  go_enter Tryz.func306, Tryz.ntmps306
  go_wp2_with fail
  refine (unhide U).mono ?_
  rintro e w1 ⟨rfl, r1, k1⟩
  have R1 := hide r1
  have K1 := hide k1
  have s1 : w.heap.size ≤ w1.heap.size := k1.size
  clear U r1 k1
  go_wp2_with fail
  go_loopg [5, 9] k (fun g lv iv wr => ∃ j : Nat, j + g = k ∧ iv = .int .i64 (j : Int) ∧ wr.ownsRow w.heap.size 3 1 lv j (i64s (rlistN bs j t).1) ∧ Re base wr p ao n cap (rlistN bs j t).2.1 (rlistN bs j t).2.2 ∧ Only base [357] w wr)
  case atStart => exact ⟨0, by omega, rfl, World.ownsRow_nil _ _ _ _, unhide R1, unhide K1⟩
  case round =>
    obtain ⟨j, hj, rfl, ho, hr, hon⟩ := hrel
    have HJ := hide hj
    have HO := hide ho
    have HON := hide hon
    have sr : w.heap.size ≤ wr.heap.size := hon.size
    have hjk : j ≤ k := by omega
    by_cases hlt : j < k
    · have I := hide (integer_any base p ao n cap (rlistN bs j t).2 bs wr hr ((unhide HS).only hon) (Nat.le_trans hbase sr))
      have ER : Hid (rlistN bs (j + 1) t = ((rlistN bs j t).1 ++ [rint bs (rlistN bs j t).2], rtake n 8 (rlistN bs j t).2)) := by show _ = _; rw [rlistN, unhide HN]
      clear hj ho hr hon
      generalize rint bs (rlistN bs j t).2 = y at *
      generalize rtake n 8 (rlistN bs j t).2 = u at *
      generalize (rlistN bs j t).1 = ys at *
      go_wp2_with fail
      refine (unhide I).mono ?_
      rintro e w2 ⟨rfl, r2, k2⟩
      have O2 := hide (own_only (unhide HO) k2 (by decide))
      have R2 := hide r2
      have K2 := hide ((unhide HON).trans k2)
      have s2 : w.heap.size ≤ w2.heap.size := Nat.le_trans sr k2.size
      clear I r2 k2 HO HON
      go_wp2_with (at_builtin; refine wpList_append_own _ rfl (.tmp 11) (.tmp 14) 24 rfl w.heap.size 3 i0 (.int .i64 0) 1 8 Tryz.underlying24 hi hz0 hz1 hz2 rfl (by decide) _ _ _ rfl ((unhide O2).alloc _) ⟨w2.heap.size, 0, none⟩ 1 1 _ rfl rfl news_at (one_int _) (by unfold maxLen; omega) (by omega) (by simp; omega) ?_)
      intro v3 w3 own3 grow3 _
      have p3 := (Only.refl w.heap.size [3] w2).alloc s2 (.cells #[.int .i64 y] 3)
      have p4 := p3.own ((unhide O2).alloc _) grow3 (by simp; omega) (Nat.le_refl _) (by simp)
      have R3 := hide ((unhide R2).own p4 (by decide) (by decide))
      have O3 := hide own3
      have K3 := hide ((unhide K2).fresh p4.below hbase)
      clear own3 grow3 p3 p4 R2 O2 K2
      go_wp2
      go_roundg (k - (j + 1))
      case measure => have := unhide HJ; omega
      case rel =>
        refine ⟨j + 1, by omega, by go_num, ?_, by rw [unhide ER]; exact unhide R3, unhide K3⟩
        rw [unhide ER]
        have h := unhide O3
        simp only [i64s, List.map_append, List.map_cons, List.map_nil] at h ⊢
        exact h
    · have ej : j = k := by omega
      subst ej
      have HR := hide hr
      clear hj ho hr hon
      go_wp2
      go_ret
      refine ⟨_, rfl, ?_, ?_, unhide HON⟩
      · rw [unhide E1]; simp only [rlistN_len]; exact unhide HO
      · rw [unhide E1]; exact unhide HR

/-! ### the same, of a reader under way -/
theorem rg_int {base : Nat} {w0 w : World} {p : Nat} {ao : Option Addr} {n cap : Nat} {bs : List Nat} {s : Nat × Nat} (h : Rg base w0 w p ao n cap bs s) :
    Calls Tryz.prog 304 #[.pointer (some ⟨p, 0, none⟩)] w fun e w' => e = .returned (.int .i64 (rint bs s)) ∧ Rg base w0 w' p ao n cap bs (rtake n 8 s) ∧ Only base [357] w w' := by
  refine (integer_any base p ao n cap s bs w h.1 h.2.1 h.2.2.1).mono ?_
  rintro e w' ⟨rfl, r, k⟩
  exact ⟨rfl, h.next r k, k⟩
theorem rg_rule {base : Nat} {w0 w : World} {p : Nat} {ao : Option Addr} {n cap : Nat} {bs : List Nat} {s : Nat × Nat} (q : Nat) (hq : q < 7) (h : Rg base w0 w p ao n cap bs s) :
    Calls Tryz.prog 305 #[.pointer (some ⟨p, 0, none⟩), .int .i64 q] w fun e w' => e = .returned (.int .i64 ((rrule bs q s).1 : Nat)) ∧ Rg base w0 w' p ao n cap bs (rrule bs q s).2 ∧ Only base [357] w w' := by
  refine (druled_any base p q hq ao n cap s bs w h.1 h.2.1 h.2.2.1).mono ?_
  rintro e w' ⟨rfl, r, k⟩
  exact ⟨rfl, h.next r k, k⟩
theorem rg_text {base : Nat} {w0 w : World} {p : Nat} {ao : Option Addr} {n cap : Nat} {bs : List Nat} {s : Nat × Nat} (h : Rg base w0 w p ao n cap bs s) :
    Calls Tryz.prog 327 #[.pointer (some ⟨p, 0, none⟩)] w fun e w' => e = .returned (.string (str (rtext bs s).1)) ∧ Rg base w0 w' p ao n cap bs (rtext bs s).2 ∧ Only base [357] w w' := by
  refine (dtext_any base p ao n cap s bs w h.1 h.2.1 h.2.2.1).mono ?_
  rintro e w' ⟨rfl, r, k⟩
  exact ⟨rfl, h.next r k, k⟩
theorem rg_list {base : Nat} {w0 w : World} {p : Nat} {ao : Option Addr} {n cap : Nat} {bs : List Nat} {s : Nat × Nat} (q : Nat) (hq : q < 7) (h : Rg base w0 w p ao n cap bs s) :
    Calls Tryz.prog 306 #[.pointer (some ⟨p, 0, none⟩), .int .i64 q] w fun e w' => ∃ v, e = .returned v ∧ w'.ownsRow w.heap.size 3 1 v (rlist bs q s).1.length (i64s (rlist bs q s).1) ∧ Rg base w0 w' p ao n cap bs (rlist bs q s).2 ∧ Only base [357] w w' := by
  refine (dlist_any base p q hq ao n cap s bs w h.1 h.2.1 h.2.2.1).mono ?_
  rintro e w' ⟨v, rfl, o, r, k⟩
  exact ⟨v, rfl, o, h.next r k, k⟩
end Go.Proofs.YtjplhiflemmkfaaGreatDoor
