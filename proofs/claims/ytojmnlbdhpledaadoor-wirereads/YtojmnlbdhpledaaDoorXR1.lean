/- The document's reader: U8, Most, End: contracts. The document's reader: Num, Most, End: contracts. The document's reader: List: a contract. -/
import Derived.Test.YtojmnlbdhpledaaDoorReader
import Derived.BigQuiet
import Derived.Deep.DeepCutAuto
namespace Go.Proofs.YtojmnlbdhpledaaDoor
open Go.RowKit

/-- the document's reader: the flaw of the program's; where there is none, its place. -/
def Xq (base : Nat) (w : World) (p : Nat) (ao : Option Addr) (n cap : Nat) (s : Nat × Nat) : Prop :=
  ∃ pos : Nat, w.heap[p]? = some (.cells #[.slice ao n cap, .int .i64 (pos : Int), .int .i64 (s.2 : Int)] 92 (0, 0)) ∧ base ≤ p ∧ (s.2 = 0 → pos = s.1) ∧ pos ≤ n
/-- the bytes that it reads. -/
structure SrcX (base : Nat) (w : World) (ao : Option Addr) (n m : Nat) (bs : List Nat) : Prop where
  len : bs.length = n
  room : n ≤ m
  nul : ao = none → m = 0
  big : n ≤ 1000000000000
  stay : ∀ w', Only base [92] w w' → Bytes w' ao bs
theorem SrcX.only {base : Nat} {w w' : World} {ao : Option Addr} {n m : Nat} {bs : List Nat} (h : SrcX base w ao n m bs) (ho : Only base [92] w w') : SrcX base w' ao n m bs :=
  ⟨h.len, h.room, h.nul, h.big, fun w2 h2 => h.stay w2 (ho.trans h2)⟩
theorem Xq.lt {base : Nat} {w : World} {p : Nat} {ao : Option Addr} {n cap : Nat} {s : Nat × Nat} (h : Xq base w p ao n cap s) : p < w.heap.size := by
  obtain ⟨pos, hp, _⟩ := h
  by_cases hl : p < w.heap.size
  · exact hl
  · rw [Array.getElem?_eq_none (by omega)] at hp; cases hp
theorem Xq.below {base : Nat} {w w' : World} {p : Nat} {ao : Option Addr} {n cap : Nat} {s : Nat × Nat} (h : Xq base w p ao n cap s) (hb : Below w.heap.size w w') : Xq base w' p ao n cap s := by
  have hl := h.lt
  obtain ⟨pos, hp, h2⟩ := h
  exact ⟨pos, by rw [hb.block p hl]; exact hp, h2⟩
theorem only_drewN {base : Nat} {ts : List TypeId} (w : World) (k : Nat) (hb : base ≤ w.heap.size) : Only base ts w (w.drewN k) := Only.of_below (drewN_below w k) hb
theorem take_at {bs : List Nat} {k : Nat} (h : k < bs.length) : (bs.drop k).take 1 = [bs.getD k 0] := by
  rw [List.drop_eq_getElem_cons h, List.take_succ_cons, List.take_zero]
  simp [List.getD, List.getElem?_eq_getElem h]

set_option maxRecDepth 20000 in
set_option maxHeartbeats 2000000 in
theorem xu8_any (base p : Nat) (ao : Option Addr) (n cap : Nat) (s : Nat × Nat) (bs : List Nat) (w : World) (h : Xq base w p ao n cap s) (hs : SrcX base w ao n cap bs) (hbase : base ≤ w.heap.size) :
    Calls Tryd.prog 70 #[.pointer (some ⟨p, 0, none⟩)] w fun e w' => e = .returned (.int .i64 ((joinTo 0 (taken bs 1 s) : Nat) : Int)) ∧ Xq base w' p ao n cap (rtake n 1 s) ∧ Only base [92] w w' := by
  have H := hide h
  have HS := hide hs
  have hn := hs.len
  have hbig := hs.big
  obtain ⟨s1, er⟩ := s
  obtain ⟨pos, hp, hbp, hpe, hpn⟩ := h
  simp only at hp hpe
  have c2 : w.cell? ⟨p, 2, none⟩ = some (.int .i64 (er : Int)) := (cell_of_block hp).trans rfl
  by_cases he : er = 0
  · subst he
    obtain rfl := hpe rfl
    have c0 : w.cell? ⟨p, 0, none⟩ = some (.slice ao n cap) := (cell_of_block hp).trans rfl
    have c1 : w.cell? ⟨p, 1, none⟩ = some (.int .i64 (pos : Int)) := (cell_of_block hp).trans rfl
    by_cases hc : pos < n
    · have e1 : rtake n 1 (pos, 0) = (pos + 1, 0) := by unfold rtake; rw [if_neg (by simp), if_neg (by simp only; omega)]
      have e2 : joinTo 0 (taken bs 1 (pos, 0)) = bs.getD pos 0 := by
        unfold taken; rw [hn, e1, if_pos rfl, take_at (by omega)]; simp [joinTo]
      rw [e1, e2]
      have hge : ¬ (n : Int) ≤ (pos : Int) := by omega
      have hpw : ((pos : Int) + 1) - 1 = (pos : Int) := by omega
      have HP := hide hp
      clear e1 e2 hp H hpe
      go_enter Tryd.func70, Tryd.ntmps70
      go_wp2_with fail
      go_quiet (fail)
      obtain ⟨w1, hw1⟩ : ∃ w1, w.drewN nq = w1 := ⟨_, rfl⟩
      have o1 : Only base [92] w w1 := by rw [← hw1]; exact only_drewN w nq hbase
      have hp1 : w1.heap[p]? = some (.cells #[.slice ao n cap, .int .i64 (pos : Int), .int .i64 ((0 : Nat) : Int)] 92 (0, 0)) := by rw [← hw1]; exact unhide HP
      rw [hw1]
      have d2 : w1.cell? ⟨p, 2, none⟩ = some (.int .i64 ((0 : Nat) : Int)) := (cell_of_block hp1).trans rfl
      have d1 : w1.cell? ⟨p, 1, none⟩ = some (.int .i64 (pos : Int)) := (cell_of_block hp1).trans rfl
      have f1 : w1.frozen? ⟨p, 1, none⟩ = false := free_of_block hp1
      obtain ⟨W, hW⟩ : ∃ W, w1.setCell ⟨p, 1, none⟩ (.int .i64 ((pos : Int) + 1)) = W := ⟨_, rfl⟩
      have oW : Only base [92] w W := by rw [← hW]; exact o1.setCell (p := ⟨p, 1, none⟩) hbp _ hp1 (by simp)
      have xW : W.heap[p]? = some (.cells #[.slice ao n cap, .int .i64 ((pos : Int) + 1), .int .i64 ((0 : Nat) : Int)] 92 (0, 0)) := by rw [← hW]; exact setCell_block hp1
      obtain ⟨B1, hB⟩ := (unhide HS).stay W oW
      have hx := getD_lt B1 pos
      obtain ⟨a, rfl, hcell⟩ := hB pos (by omega)
      obtain ⟨v, hv⟩ : ∃ v, bs.getD pos 0 = v := ⟨_, rfl⟩
      rw [hv] at hx hcell
      have HV := hide hv
      clear hv
      have XW := hide xW
      have OW := hide oW
      have HW := hide hW
      clear hw1 c0 c1 c2 o1 hp1 oW hW xW hB B1
      go_upto_region 6 with fail
      rw [unhide HW]
      have g0 : W.cell? ⟨p, 0, none⟩ = some (.slice (some a) n cap) := (cell_of_block (unhide XW)).trans rfl
      have g1 : W.cell? ⟨p, 1, none⟩ = some (.int .i64 ((pos : Int) + 1)) := (cell_of_block (unhide XW)).trans rfl
      clear d1 d2 f1
      go_quiet (fail)
      go_wp2
      go_ret
      refine ⟨by rw [unhide HV]; rfl, ⟨pos + 1, ?_, hbp, (fun _ => rfl), by omega⟩, (unhide OW).trans (only_drewN W _ (Nat.le_trans hbase (unhide OW).size))⟩
      have := unhide XW
      exact this
    · obtain rfl : pos = n := by omega
      have e1 : rtake pos 1 (pos, 0) = (pos, 8) := by unfold rtake; rw [if_neg (by simp), if_pos (by simp only; omega)]
      have e2 : joinTo 0 (taken bs 1 (pos, 0)) = 0 := by
        unfold taken; rw [hn, e1]; simp [joinTo]
      rw [e1, e2]
      have HP := hide hp
      clear e1 e2 hp H hpe
      go_enter Tryd.func70, Tryd.ntmps70
      go_wp2_with fail
      go_quiet (fail)
      obtain ⟨w1, hw1⟩ : ∃ w1, w.drewN nq = w1 := ⟨_, rfl⟩
      have o1 : Only base [92] w w1 := by rw [← hw1]; exact only_drewN w nq hbase
      have hp1 : w1.heap[p]? = some (.cells #[.slice ao pos cap, .int .i64 (pos : Int), .int .i64 ((0 : Nat) : Int)] 92 (0, 0)) := by rw [← hw1]; exact unhide HP
      rw [hw1]
      have d2 : w1.cell? ⟨p, 2, none⟩ = some (.int .i64 ((0 : Nat) : Int)) := (cell_of_block hp1).trans rfl
      have f2 : w1.frozen? ⟨p, 2, none⟩ = false := free_of_block hp1
      obtain ⟨W, hW⟩ : ∃ W, w1.setCell ⟨p, 2, none⟩ (.int .i64 8) = W := ⟨_, rfl⟩
      have oW : Only base [92] w W := by rw [← hW]; exact o1.setCell (p := ⟨p, 2, none⟩) hbp _ hp1 (by simp)
      have xW : W.heap[p]? = some (.cells #[.slice ao pos cap, .int .i64 (pos : Int), .int .i64 8] 92 (0, 0)) := by rw [← hW]; exact setCell_block hp1
      have XW := hide xW
      have OW := hide oW
      have HW := hide hW
      clear hw1 c0 c1 c2 o1 hp1 oW hW xW
      go_upto_region 3 with fail
      rw [unhide HW]
      have g2 : W.cell? ⟨p, 2, none⟩ = some (.int .i64 8) := (cell_of_block (unhide XW)).trans rfl
      clear d2 f2
      go_wp2
      go_ret
      exact ⟨rfl, ⟨pos, unhide XW, hbp, (fun h => by cases h), Nat.le_refl _⟩, unhide OW⟩
  · have e1 : rtake n 1 (s1, er) = (s1, er) := by unfold rtake; rw [if_pos (by simpa using he)]
    have e2 : joinTo 0 (taken bs 1 (s1, er)) = 0 := by
      unfold taken; rw [hn, e1, if_neg (by simpa using he)]; simp [joinTo]
    rw [e1, e2]
    have q1 : ((er : Int) == 0) = false := by simp; omega
    have q2 : ((er : Int) != 0) = true := by simp; omega
    clear e1 e2 hp hpe he
    go_enter Tryd.func70, Tryd.ntmps70
    go_wp2_with fail
    go_quiet (fail)
    have d2 : (w.drewN nq).cell? ⟨p, 2, none⟩ = some (.int .i64 (er : Int)) := c2
    go_wp2
    go_ret
    exact ⟨rfl, (unhide H).below (drewN_below w _), only_drewN w _ hbase⟩
end Go.Proofs.YtojmnlbdhpledaaDoor
namespace Go.Proofs.YtojmnlbdhpledaaDoor
open Go.RowKit

theorem Xq.er {base : Nat} {w : World} {p : Nat} {ao : Option Addr} {n cap : Nat} {s t : Nat × Nat} (h : Xq base w p ao n cap s) (he : s.2 = t.2) (h0 : s.2 ≠ 0) : Xq base w p ao n cap t := by
  obtain ⟨pos, h1, h2, h3, h4⟩ := h
  exact ⟨pos, by rw [← he]; exact h1, h2, fun h => absurd (he.trans h) h0, h4⟩
/-- how far Num has come: in k bytes. -/
def NumAt (bs : List Nat) (n : Nat) (s : Nat × Nat) (k v : Nat) (t : Nat × Nat) : Prop :=
  (t.2 = 0 → s.2 = 0 ∧ t.1 = s.1 + k ∧ s.1 + k ≤ n ∧ v = joinTo 0 ((bs.drop s.1).take k)) ∧ (t.2 ≠ 0 → (s.2 ≠ 0 ∧ t.2 = s.2) ∨ (s.2 = 0 ∧ t.2 = 8 ∧ n < s.1 + k))
theorem taken_no {bs : List Nat} {k : Nat} {s : Nat × Nat} (h : (rtake bs.length k s).2 ≠ 0) : taken bs k s = [] := by unfold taken; rw [if_neg h]
theorem NumAt.step {bs : List Nat} {n : Nat} {s : Nat × Nat} {k v : Nat} {t : Nat × Nat} (hn : bs.length = n) (h : NumAt bs n s k v t) (_h0 : s.2 = 0 → s.1 ≤ n) : NumAt bs n s (k + 1) (v * 256 % 18446744073709551616 + joinTo 0 (taken bs 1 t)) (rtake n 1 t) := by
  by_cases ht : t.2 = 0
  · obtain ⟨a1, a2, a3, a4⟩ := h.1 ht
    by_cases hc : n - t.1 < 1
    · have e1 : rtake n 1 t = (t.1, 8) := by unfold rtake; rw [if_neg (by simpa using ht), if_pos hc]
      rw [e1]
      exact ⟨(fun h => by cases h), fun _ => Or.inr ⟨a1, rfl, by omega⟩⟩
    · have e1 : rtake n 1 t = (t.1 + 1, 0) := by unfold rtake; rw [if_neg (by simpa using ht), if_neg hc]
      have e2 : taken bs 1 t = [bs.getD t.1 0] := by unfold taken; rw [hn, e1, if_pos rfl, take_at (by omega)]
      rw [e1, e2]
      refine ⟨fun _ => ⟨a1, by simp only; omega, by omega, ?_⟩, fun h => absurd rfl h⟩
      have hk : k < (bs.drop s.1).length := by rw [List.length_drop]; omega
      rw [take_succ _ 0 k hk]
      have e4 : ∀ (l : List Nat) (x : Nat), joinTo 0 (l ++ [x]) = joinTo 0 l * 256 % 18446744073709551616 + x := fun l x => by unfold joinTo; rw [List.foldl_append]; rfl
      rw [e4, ← a4]
      have e3 : (bs.drop s.1).getD k 0 = bs.getD t.1 0 := by
        simp only [List.getD, List.getElem?_drop]
        rw [a2]
      rw [e3]
      simp [joinTo]
  · have e1 : rtake n 1 t = t := by unfold rtake; rw [if_pos (by simpa using ht)]
    rw [e1]
    refine ⟨fun h => absurd h ht, fun _ => ?_⟩
    rcases h.2 ht with a | ⟨a, b, c⟩
    · exact Or.inl a
    · exact Or.inr ⟨a, b, by omega⟩
theorem NumAt.fin {bs : List Nat} {n : Nat} {s : Nat × Nat} {v : Nat} {t : Nat × Nat} (hn : bs.length = n) (h : NumAt bs n s 8 v t) : (t.2 = 0 → rint bs s = wrap64 (v : Int) ∧ rtake n 8 s = t) ∧ (t.2 ≠ 0 → rint bs s = 0 ∧ t.2 = (rtake n 8 s).2) := by
  constructor
  · intro ht
    obtain ⟨a1, a2, a3, a4⟩ := h.1 ht
    have e1 : rtake n 8 s = (s.1 + 8, 0) := by unfold rtake; rw [if_neg (by simpa using a1), if_neg (by omega)]
    refine ⟨?_, by rw [e1]; exact Prod.ext a2.symm ht.symm⟩
    unfold rint taken
    rw [hn, e1, if_pos rfl, ← a4]
  · intro ht
    have e1 : (rtake n 8 s).2 = t.2 := by
      rcases h.2 ht with ⟨a, b⟩ | ⟨a, b, c⟩
      · unfold rtake; rw [if_pos (by simpa using a)]; exact b.symm
      · unfold rtake; rw [if_neg (by simpa using a), if_pos (by omega)]; exact b.symm
    refine ⟨?_, e1.symm⟩
    unfold rint
    rw [taken_no (by rw [hn, e1]; exact ht)]
    first | rfl | (simp only [joinTo, List.foldl_nil]; unfold wrap64; rfl) | (simp [joinTo, wrap64])

set_option maxRecDepth 20000 in
set_option maxHeartbeats 2000000 in
theorem xnum_any (base p : Nat) (ao : Option Addr) (n cap : Nat) (s : Nat × Nat) (bs : List Nat) (w : World) (h : Xq base w p ao n cap s) (hs : SrcX base w ao n cap bs) (hbase : base ≤ w.heap.size) :
    Calls Tryd.prog 49 #[.pointer (some ⟨p, 0, none⟩)] w fun e w' => e = .returned (.int .i64 (rint bs s)) ∧ Xq base w' p ao n cap (rtake n 8 s) ∧ Only base [92] w w' := by
  have H := hide h
  have HS := hide hs
  have HN := hide hs.len
  have HB := hide hbase
  have HZ : Hid (s.2 = 0 → s.1 ≤ n) := hide (fun h0 => by obtain ⟨pos, _, _, h3, h4⟩ := h; have := h3 h0; omega)
  clear h hs hbase
  go_enter Tryd.func49, Tryd.ntmps49
  go_wp2_with fail
  go_loopw [3, 4] (fun vv iv wr => ∃ (k v : Nat) (t : Nat × Nat), k ≤ 8 ∧ iv = .int .i64 (k : Int) ∧ vv = .int .u64 (v : Int) ∧ v < 18446744073709551616 ∧ Xq base wr p ao n cap t ∧ Only base [92] w wr ∧ NumAt bs n s k v t) (fun _ iv _ => 8 - (intOf iv).toNat)
  case atStart => exact ⟨0, 0, s, by decide, rfl, rfl, by decide, unhide H, Only.refl _ _ _, ⟨fun h0 => ⟨h0, rfl, unhide HZ h0, by simp [joinTo]⟩, fun h0 => Or.inl ⟨h0, rfl⟩⟩⟩
  case round =>
    obtain ⟨k, v, t, hk, rfl, rfl, hv, hx, ho, hat⟩ := hrel
    have HX := hide hx
    have HO := hide ho
    have HA := hide hat
    clear hx ho hat H
    by_cases hlt : k < 8
    · have q1 : (k : Int) < 8 := by omega
      have sz : base ≤ wr.heap.size := Nat.le_trans (unhide HB) (unhide HO).size
      have C := hide (xu8_any base p ao n cap t bs wr (unhide HX) ((unhide HS).only (unhide HO)) sz)
      have hx8 := taken_one bs t (fun x hx => by
        have hb := ((unhide HS).stay w (Only.refl _ _ _)).1
        unfold taken at hx
        split at hx
        · exact hb x (List.mem_of_mem_drop (List.mem_of_mem_take hx))
        · cases hx)
      have ST := hide ((unhide HA).step (unhide HN) (unhide HZ))
      obtain ⟨x, hxe⟩ : ∃ x, joinTo 0 (taken bs 1 t) = x := ⟨_, rfl⟩
      rw [hxe] at C hx8 ST
      have e1 : bits .or .u64 (IntKind.u64.wrap ((v : Int) * 256)) (x : Int) = ((v * 256 % 18446744073709551616 + x : Nat) : Int) := by
        have := u64_or_nat (v * 256 % 18446744073709551616) x (by omega) (by omega)
        rw [nat_join 8 _ x (by omega) hx8] at this
        rw [IntKind.wrap_u64]
        simpa using this
      clear hxe sz
      go_wp2_with fail
      refine (unhide C).mono ?_
      rintro e w1 ⟨rfl, x1, o1⟩
      have X1 := hide x1
      have O1 := hide ((unhide HO).trans o1)
      clear x1 o1 C
      go_wp2
      go_roundw
      case rel => exact ⟨k + 1, v * 256 % 18446744073709551616 + x, _, by omega, by go_num, rfl, by omega, unhide X1, unhide O1, unhide ST⟩
      case measure => simp [intOf]; omega
    · obtain rfl : k = 8 := by omega
      have FF := (unhide HA).fin (unhide HN)
      obtain ⟨pos, hp, -⟩ := unhide HX
      have c2 : wr.cell? ⟨p, 2, none⟩ = some (.int .i64 (t.2 : Int)) := (cell_of_block hp).trans rfl
      clear hp
      obtain ⟨t1, er⟩ := t
      simp only at c2 FF
      by_cases he : er = 0
      · subst he
        obtain ⟨g1, g2⟩ := FF.1 rfl
        have G1 := hide g1
        have G2 := hide g2
        clear FF g1 g2
        go_wp2
        go_ret
        rw [unhide G1, unhide G2]
        exact ⟨rfl, unhide HX, unhide HO⟩
      · obtain ⟨g1, g2⟩ := FF.2 he
        have G1 := hide g1
        have XX := hide ((unhide HX).er g2 he)
        have q2 : ((er : Int) != 0) = true := by simp; omega
        clear FF g1 g2 he
        go_wp2
        go_ret
        rw [unhide G1]
        exact ⟨rfl, unhide XX, unhide HO⟩

/-- what Most answers, and does. -/
def xmost (bs : List Nat) (most e : Nat) (s : Nat × Nat) : Nat × (Nat × Nat) :=
  if (rtake bs.length 1 s).2 = 0 ∧ most < joinTo 0 (taken bs 1 s) then (0, ((rtake bs.length 1 s).1, e)) else (joinTo 0 (taken bs 1 s), rtake bs.length 1 s)
theorem xmost_rule (bs : List Nat) (most e q : Nat) (s : Nat × Nat) (he : e ≠ 0) (h : ∀ v : Nat, refuse q (v : Int) = if most < v then e else 0) : xmost bs most e s = rrule bs q s := by
  unfold xmost rrule
  by_cases ht : (rtake bs.length 1 s).2 = 0
  · by_cases hm : most < joinTo 0 (taken bs 1 s)
    · rw [if_pos ⟨ht, hm⟩, h, if_pos hm, if_neg he, if_pos ht]
    · rw [if_neg (fun x => hm x.2), h, if_neg hm, if_pos rfl]
  · rw [if_neg (fun x => ht x.1), taken_no ht, h]
    simp [joinTo]
set_option maxRecDepth 20000 in
set_option maxHeartbeats 2000000 in
theorem xmost_any (base p : Nat) (ao : Option Addr) (n cap : Nat) (s : Nat × Nat) (bs : List Nat) (most e : Nat) (he : e ≠ 0) (_hm : most ≤ 255) (w : World) (h : Xq base w p ao n cap s) (hs : SrcX base w ao n cap bs) (hbase : base ≤ w.heap.size) :
    Calls Tryd.prog 50 #[.pointer (some ⟨p, 0, none⟩), .int .i64 (most : Int), .int .i64 (e : Int)] w fun r w' => r = .returned (.int .i64 ((xmost bs most e s).1 : Nat)) ∧ Xq base w' p ao n cap (xmost bs most e s).2 ∧ Only base [92] w w' := by
  have C := hide (xu8_any base p ao n cap s bs w h hs hbase)
  have E0 : Hid (xmost bs most e s = if (rtake n 1 s).2 = 0 ∧ most < joinTo 0 (taken bs 1 s) then (0, ((rtake n 1 s).1, e)) else (joinTo 0 (taken bs 1 s), rtake n 1 s)) := hide (by unfold xmost; rw [hs.len])
  obtain ⟨v, hv⟩ : ∃ v, joinTo 0 (taken bs 1 s) = v := ⟨_, rfl⟩
  obtain ⟨⟨t1, er⟩, ht⟩ : ∃ t, rtake n 1 s = t := ⟨_, rfl⟩
  rw [hv, ht] at C E0
  clear hv ht h hs
  go_enter Tryd.func50, Tryd.ntmps50
  go_wp2_with fail
  refine (unhide C).mono ?_
  rintro r w1 ⟨rfl, x1, o1⟩
  have X1 := hide x1
  have O1 := hide o1
  obtain ⟨pos, hp, hbp, h3, h4⟩ := x1
  simp only at hp h3
  have c2 : w1.cell? ⟨p, 2, none⟩ = some (.int .i64 (er : Int)) := (cell_of_block hp).trans rfl
  have f2 : w1.frozen? ⟨p, 2, none⟩ = false := free_of_block hp
  have HP := hide hp
  clear C o1 hp
  by_cases hr : er = 0
  · subst hr
    by_cases hlt : most < v
    · have e1 := unhide E0
      rw [if_pos ⟨rfl, hlt⟩] at e1
      have EE := hide e1
      have q1 : (most : Int) < (v : Int) := by omega
      obtain rfl := h3 rfl
      obtain ⟨W, hW⟩ : ∃ W, w1.setCell ⟨p, 2, none⟩ (.int .i64 (e : Int)) = W := ⟨_, rfl⟩
      have oW : Only base [92] w W := by rw [← hW]; exact (unhide O1).setCell (p := ⟨p, 2, none⟩) hbp _ (unhide HP) (by simp)
      have xW : W.heap[p]? = some (.cells #[.slice ao n cap, .int .i64 (pos : Int), .int .i64 (e : Int)] 92 (0, 0)) := by rw [← hW]; exact setCell_block (unhide HP)
      have XW := hide xW
      have OW := hide oW
      have HW := hide hW
      have HE := hide he
      clear oW xW hW E0 e1 he h3
      go_wp2
      go_ret
      rw [unhide HW, unhide EE]
      exact ⟨rfl, ⟨pos, unhide XW, hbp, (fun h => absurd h (unhide HE)), h4⟩, unhide OW⟩
    · have e1 := unhide E0
      rw [if_neg (fun x => hlt x.2)] at e1
      have EE := hide e1
      have q1 : ¬ (most : Int) < (v : Int) := by omega
      clear E0 e1 h3
      go_wp2
      go_ret
      rw [unhide EE]
      exact ⟨rfl, unhide X1, unhide O1⟩
  · have e1 := unhide E0
    rw [if_neg (fun x => hr x.1)] at e1
    have EE := hide e1
    have q2 : ((er : Int) == 0) = false := by simp; omega
    clear E0 e1 h3 hr
    go_wp2
    go_ret
    rw [unhide EE]
    exact ⟨rfl, unhide X1, unhide O1⟩

set_option maxRecDepth 20000 in
set_option maxHeartbeats 2000000 in
theorem xend_any (base p : Nat) (ao : Option Addr) (n cap : Nat) (s : Nat × Nat) (w : World) (h : Xq base w p ao n cap s) :
    Calls Tryd.prog 54 #[.pointer (some ⟨p, 0, none⟩)] w fun r w' => r = .returned (.int .i64 ((rend n s).2 : Nat)) ∧ ∃ d, w' = w.drewN d := by
  obtain ⟨s1, er⟩ := s
  obtain ⟨pos, hp, hbp, h3, h4⟩ := h
  simp only at hp h3
  have c2 : w.cell? ⟨p, 2, none⟩ = some (.int .i64 (er : Int)) := (cell_of_block hp).trans rfl
  have c1 : w.cell? ⟨p, 1, none⟩ = some (.int .i64 (pos : Int)) := (cell_of_block hp).trans rfl
  have c0 : w.cell? ⟨p, 0, none⟩ = some (.slice ao n cap) := (cell_of_block hp).trans rfl
  by_cases hr : er = 0
  · subst hr
    obtain rfl := h3 rfl
    by_cases hlt : pos < n
    · have e1 : (rend n (pos, 0)).2 = 9 := by unfold rend; rw [if_pos hlt]; rfl
      rw [e1]
      have q1 : (pos : Int) < (n : Int) := by omega
      clear e1 hp h3
      go_enter Tryd.func54, Tryd.ntmps54
      go_wp2_with fail
      go_quiet (fail)
      go_wp2
      go_ret
      exact ⟨rfl, _, rfl⟩
    · have e1 : (rend n (pos, 0)).2 = 0 := by unfold rend; rw [if_neg hlt]
      rw [e1]
      have q1 : ¬ (pos : Int) < (n : Int) := by omega
      clear e1 hp h3
      go_enter Tryd.func54, Tryd.ntmps54
      go_wp2_with fail
      go_quiet (fail)
      have d2 : (w.drewN nq).cell? ⟨p, 2, none⟩ = some (.int .i64 ((0 : Nat) : Int)) := c2
      go_wp2
      go_ret
      exact ⟨rfl, _, rfl⟩
  · have e1 : (rend n (s1, er)).2 = er := by
      unfold rend
      split
      · first | rfl | simp [hr]
      · rfl
    rw [e1]
    have q2 : ((er : Int) == 0) = false := by simp; omega
    clear e1 hp h3 hr
    go_enter Tryd.func54, Tryd.ntmps54
    go_wp2_with fail
    go_quiet (fail)
    have d2 : (w.drewN nq).cell? ⟨p, 2, none⟩ = some (.int .i64 (er : Int)) := c2
    go_wp2
    go_ret
    exact ⟨rfl, _, rfl⟩
end Go.Proofs.YtojmnlbdhpledaaDoor
namespace Go.Proofs.YtojmnlbdhpledaaDoor
open Go.RowKit

theorem Xq.own {base b : Nat} {w w' : World} {p : Nat} {ao : Option Addr} {n cap : Nat} {s : Nat × Nat} (h : Xq base w p ao n cap s) {ts : List TypeId} (hk : Only b ts w w') (h1 : 92 ∉ ts) : Xq base w' p ao n cap s := by
  obtain ⟨pos, hp, h2⟩ := h
  exact ⟨pos, by rw [hk.block hp h1], h2⟩
theorem rtake_er {n k : Nat} {s : Nat × Nat} (h : s.2 ≠ 0) : rtake n k s = s := by unfold rtake; rw [if_pos h]
theorem rlistN_er (bs : List Nat) (t : Nat × Nat) (j : Nat) (h : (rlistN bs j t).2.2 ≠ 0) : ∀ d, (rlistN bs (j + d) t).2.2 = (rlistN bs j t).2.2
  | 0 => rfl
  | d + 1 => by
    have ih := rlistN_er bs t j h d
    rw [← Nat.add_assoc, rlistN]
    simp only
    rw [rtake_er (by rw [ih]; exact h)]
    exact ih

set_option maxRecDepth 20000 in
set_option maxHeartbeats 2000000 in
theorem xlist_any (base p q most : Nat) (hm : most ≤ 255) (hq : ∀ v : Nat, refuse q (v : Int) = if most < v then 4 else 0) (ao : Option Addr) (n cap : Nat) (s : Nat × Nat) (bs : List Nat) (w : World) (h : Xq base w p ao n cap s) (hs : SrcX base w ao n cap bs) (hbase : base ≤ w.heap.size) :
    Calls Tryd.prog 51 #[.pointer (some ⟨p, 0, none⟩), .int .i64 (most : Int)] w fun e w' => ∃ v ys, e = .returned v ∧ w'.ownsRow w.heap.size 3 1 v ys.length (i64s ys) ∧ ys.length ≤ 64 ∧ ((rlist bs q s).2.2 = 0 → ys = (rlist bs q s).1) ∧ Xq base w' p ao n cap (rlist bs q s).2 ∧ Only base [92] w w' := by
  have U := xmost_any base p ao n cap s bs most 4 (by decide) hm w h hs hbase
  rw [xmost_rule bs most 4 q s (by decide) hq] at U
  have U := hide U
  have HS := hide hs
  have hk := rrule_le bs q s
  have E1 : Hid (rlist bs q s = rlistN bs (rrule bs q s).1 (rrule bs q s).2) := by show _ = _; rfl
  have HN : Hid (bs.length = n) := hs.len
  clear h hs hq
  generalize rrule bs q s = r at *
  obtain ⟨k, t⟩ := r
  obtain ⟨i0, hi, hz0, hz1, hz2⟩ := info_parts Tryd.info_int
  go_enter Tryd.func51, Tryd.ntmps51
  go_wp2_with fail
  refine (unhide U).mono ?_
  rintro e w1 ⟨rfl, r1, k1⟩
  have R1 := hide r1
  have K1 := hide k1
  have s1 : w.heap.size ≤ w1.heap.size := k1.size
  clear U r1 k1
  go_wp2_with fail
  go_loopg [6, 7] k (fun g lv iv wr => ∃ j : Nat, j + g = k ∧ iv = .int .i64 (j : Int) ∧ wr.ownsRow w.heap.size 3 1 lv j (i64s (rlistN bs j t).1) ∧ Xq base wr p ao n cap (rlistN bs j t).2 ∧ Only base [92] w wr)
  case atStart => exact ⟨0, by omega, rfl, World.ownsRow_nil _ _ _ _, unhide R1, unhide K1⟩
  case round =>
    obtain ⟨j, hj, rfl, ho, hr, hon⟩ := hrel
    have HJ := hide hj
    have HO := hide ho
    have HON := hide hon
    have HR := hide hr
    have sr : w.heap.size ≤ wr.heap.size := hon.size
    have hjk : j ≤ k := by omega
    obtain ⟨er, her⟩ : ∃ er, (rlistN bs j t).2.2 = er := ⟨_, rfl⟩
    have HER := hide her
    have c2 : wr.cell? ⟨p, 2, none⟩ = some (.int .i64 (er : Int)) := by
      obtain ⟨pos, hp, _⟩ := hr
      rw [her] at hp
      exact (cell_of_block hp).trans rfl
    by_cases hlt : j < k
    · by_cases he : er = 0
      · subst he
        have q1 : (j : Int) < (k : Int) := by omega
        have I := hide (xnum_any base p ao n cap (rlistN bs j t).2 bs wr hr ((unhide HS).only hon) (Nat.le_trans hbase sr))
        have ER : Hid (rlistN bs (j + 1) t = ((rlistN bs j t).1 ++ [rint bs (rlistN bs j t).2], rtake n 8 (rlistN bs j t).2)) := by show _ = _; rw [rlistN, unhide HN]
        clear hj ho hr hon her HER HR
        generalize rint bs (rlistN bs j t).2 = y at *
        generalize rtake n 8 (rlistN bs j t).2 = u at *
        generalize (rlistN bs j t).1 = ys at *
        go_wp2_with fail
        refine (unhide I).mono ?_
        rintro e w2 ⟨rfl, r2, k2⟩
        have O2 := hide (own_only (unhide HO) k2 (by decide))
        have R2 := hide r2
        have K2 := hide ((unhide HON).trans k2)
        have s2 : w.heap.size ≤ w2.heap.size := Nat.le_trans sr k2.size
        clear I r2 k2 HO HON c2
        go_wp2_with (at_builtin; refine wpList_append_own _ rfl (.tmp 23) (.tmp 26) 22 rfl w.heap.size 3 i0 (.int .i64 0) 1 8 Tryd.underlying22 hi hz0 hz1 hz2 rfl (by decide) _ _ _ rfl ((unhide O2).alloc _) ⟨w2.heap.size, 0, none⟩ 1 1 _ rfl rfl news_at (one_int _) (by unfold maxLen; omega) (by omega) (by simp; omega) ?_)
        intro v3 w3 own3 grow3 _
        have p3 := (Only.refl w.heap.size [3] w2).alloc s2 (.cells #[.int .i64 y] 3)
        have p4 := p3.own ((unhide O2).alloc _) grow3 (by simp; omega) (Nat.le_refl _) (by simp)
        have R3 := hide ((unhide R2).own p4 (by decide))
        have O3 := hide own3
        have K3 := hide ((unhide K2).fresh p4.below hbase)
        clear own3 grow3 p3 p4 R2 O2 K2
        go_wp2
        go_roundg (k - (j + 1))
        case measure => have := unhide HJ; omega
        case rel =>
          refine ⟨j + 1, by omega, by go_num, ?_, by rw [unhide ER]; exact unhide R3, unhide K3⟩
          rw [unhide ER]
          have h := unhide O3
          simp only [i64s, List.map_append, List.map_cons, List.map_nil] at h ⊢
          exact h
      · have q1 : (j : Int) < (k : Int) := by omega
        have q2 : ((er : Int) == 0) = false := by simp; omega
        have HE : Hid ((rlistN bs k t).2.2 = (rlistN bs j t).2.2 ∧ (rlistN bs j t).2.2 ≠ 0) := hide (by
          have h0 : (rlistN bs j t).2.2 ≠ 0 := by rw [her]; exact he
          refine ⟨?_, h0⟩
          have := rlistN_er bs t j h0 (k - j)
          rwa [show j + (k - j) = k by omega] at this)
        clear hj ho hr hon her HER he
        go_wp2
        go_ret
        refine ⟨_, (rlistN bs j t).1, rfl, ?_, ?_, ?_, ?_, unhide HON⟩
        · rw [rlistN_len]; exact unhide HO
        · rw [rlistN_len]; omega
        · rw [unhide E1]; intro h0; exact absurd ((unhide HE).1.symm.trans h0) (unhide HE).2
        · rw [unhide E1]; exact (unhide HR).er (unhide HE).1.symm (unhide HE).2
    · have ej : j = k := by omega
      subst ej
      clear hj ho hr hon her HER
      go_wp2
      go_ret
      refine ⟨_, (rlistN bs j t).1, rfl, ?_, ?_, ?_, ?_, unhide HON⟩
      · rw [rlistN_len]; exact unhide HO
      · rw [rlistN_len]; omega
      · rw [unhide E1]; exact fun _ => rfl
      · rw [unhide E1]; exact unhide HR
end Go.Proofs.YtojmnlbdhpledaaDoor
