/- wire.frameAt: a contract. wire.frameAt in one, bytes.Clone, wire.Split: contracts. synodallaw2.within, synodallaw2.known: contracts; what the listed variables give. -/
import Derived.Test.YtjplhiflemmkfaaGreatDoorCrcW
import Derived.Test.YtjplhiflemmkfaaGreatDoorAsW
import Derived.BigQuiet
import Derived.Deep.QuietTactic
import Derived.Lib.SlBytesConst
namespace Go.Proofs.YtjplhiflemmkfaaGreatDoor
open Go.RowKit

theorem frameAt_short (ao : Option Addr) (n cap at' : Nat) (w : World) (h0 : at' ≤ n) (_h1 : n ≤ cap) (h2 : n < at' + 4) (_h3 : n ≤ 1000000000000) :
    Calls Tryz.prog 218 #[.slice ao n cap, .int .i64 at'] w fun e w' => e = .returned (.tuple #[.int .i64 0, .nilIface]) ∧ w' = w := by
  go_enter Tryz.func218, Tryz.ntmps218
  go_wp2
  all_goals
    go_ret2
    exact ⟨rfl, rfl⟩

set_option maxRecDepth 8000 in
set_option maxHeartbeats 1000000 in
theorem frameAt_long (a : Addr) (n cap at' : Nat) (bs : List Nat) (hbl : bs.length = n - at') (w : World) (hb : Bytes w (some (a.add at')) bs) (h0 : at' ≤ n) (h1 : n ≤ cap) (h2 : at' + 4 ≤ n) (_h3 : n ≤ 1000000000000)
    (h4 : 65536 < joinTo 0 (bs.take 4)) :
    Calls Tryz.prog 218 #[.slice (some a) n cap, .int .i64 at'] w fun e w' => e = .returned (.tuple #[.int .i64 0, .iface 313 (.pointer (some ⟨w.heap.size, 0, none⟩))]) ∧ w' = w.alloc (.cells #[.int .i64 at', .iface 32 (.int .i64 5)] 315) := by
  have hne : ¬ cap = at' := by omega
  have hjl : joinTo 0 (bs.take 4) < 18446744073709551616 := join_lt (fun x hx => hb.1 x (List.mem_of_mem_take hx))
  have HB := hide (hb.take 4)
  have HL := hide (show (bs.take 4).length = 4 by rw [List.length_take]; omega)
  generalize bs.take 4 = f4 at *
  clear hb hbl
  go_enter Tryz.func218, Tryz.ntmps218
  go_wp2_with fail
  refine (joined_len _ 4 _ f4 (unhide HL) w (unhide HB) (by omega)).mono ?_
  rintro e w' ⟨rfl, rfl⟩
  generalize joinTo 0 f4 = m at *
  go_wp2
  go_ret2
  exact ⟨rfl, rfl⟩

set_option maxRecDepth 8000 in
set_option maxHeartbeats 1000000 in
theorem frameAt_part (a : Addr) (n cap at' : Nat) (bs : List Nat) (hbl : bs.length = n - at') (w : World) (hb : Bytes w (some (a.add at')) bs) (h0 : at' ≤ n) (h1 : n ≤ cap) (h2 : at' + 4 ≤ n) (_h3 : n ≤ 1000000000000)
    (h4 : joinTo 0 (bs.take 4) ≤ 65536) (h5 : n < at' + (8 + joinTo 0 (bs.take 4))) :
    Calls Tryz.prog 218 #[.slice (some a) n cap, .int .i64 at'] w fun e w' => e = .returned (.tuple #[.int .i64 0, .nilIface]) ∧ w' = w := by
  have hne : ¬ cap = at' := by omega
  have HB := hide (hb.take 4)
  have HL := hide (show (bs.take 4).length = 4 by rw [List.length_take]; omega)
  generalize bs.take 4 = f4 at *
  clear hb hbl
  go_enter Tryz.func218, Tryz.ntmps218
  go_wp2_with fail
  refine (joined_len _ 4 _ f4 (unhide HL) w (unhide HB) (by omega)).mono ?_
  rintro e w' ⟨rfl, rfl⟩
  generalize joinTo 0 f4 = m at *
  go_wp2
  go_ret2
  exact ⟨rfl, rfl⟩

set_option maxRecDepth 8000 in
set_option maxHeartbeats 1000000 in
theorem frameAt_sum (a : Addr) (n cap at' : Nat) (bs : List Nat) (hbl : bs.length = n - at') (w : World) (hb : Bytes w (some (a.add at')) bs) (h0 : at' ≤ n) (h1 : n ≤ cap) (h2 : at' + 4 ≤ n) (h3 : n ≤ 1000000000000)
    (h4 : joinTo 0 (bs.take 4) ≤ 65536) (h5 : at' + (8 + joinTo 0 (bs.take 4)) ≤ n) (hT : Table w)
    (h6 : joinTo 0 ((bs.drop 4).take 4) ≠ Sum.crc ((bs.drop 8).take (joinTo 0 (bs.take 4)))) :
    Calls Tryz.prog 218 #[.slice (some a) n cap, .int .i64 at'] w fun e w' => e = .returned (.tuple #[.int .i64 0, .iface 313 (.pointer (some ⟨w.heap.size, 0, none⟩))]) ∧ ∃ k p, w' = (w.drewN k).alloc (.cells #[p, .iface 32 (.int .i64 11)] 315) := by
  have hne : ¬ cap = at' := by omega
  have hcl : Sum.crc ((bs.drop 8).take (joinTo 0 (bs.take 4))) < 4294967296 := Sum.crc_lt (fun x hx => hb.1 x (List.mem_of_mem_drop (List.mem_of_mem_take hx)))
  have HB := hide (hb.take 4)
  have HB2 := hide ((hb.drop 4).take 4)
  have HB3 := hide ((hb.drop 8).take (joinTo 0 (bs.take 4)))
  have HT := hide hT
  have HL := hide (show (bs.take 4).length = 4 by rw [List.length_take]; omega)
  have HL2 := hide (show ((bs.drop 4).take 4).length = 4 by rw [List.length_take, List.length_drop]; omega)
  have HL3 := hide (show ((bs.drop 8).take (joinTo 0 (bs.take 4))).length = joinTo 0 (bs.take 4) by rw [List.length_take, List.length_drop]; omega)
  generalize (bs.drop 8).take (joinTo 0 (bs.take 4)) = f9 at *
  generalize (bs.drop 4).take 4 = f8 at *
  generalize bs.take 4 = f4 at *
  clear hb hbl hT
  go_enter Tryz.func218, Tryz.ntmps218
  go_wp2_with fail
  refine (joined_len _ 4 _ f4 (unhide HL) w (unhide HB) (by omega)).mono ?_
  rintro e w' ⟨rfl, rfl⟩
  generalize joinTo 0 f4 = m at *
  go_wp2_with fail
  have HC : Hid (n - at' ≤ cap - at' ∧ 8 + m ≤ n - at' ∧ n - at' ≤ 1000000000000) := by show _ ∧ _ ∧ _; omega
  clear h0 h1 h2 h3 h5 hne
  generalize n - at' = n' at *
  generalize cap - at' = c' at *
  generalize a.add at' = a' at *
  obtain ⟨q0, q1, q2⟩ := unhide HC
  have r1 : (8 : Int) ≤ c' := by omega
  have r2 : (8 : Int) + m ≤ c' := by omega
  have r3 : ¬ c' = 4 := by omega
  have h7 : (((joinTo 0 f8 : Nat) : Int) != ((Sum.crc f9 : Nat) : Int)) = true := by rw [bne_iff_ne]; omega
  by_cases r4 : c' = 8
  · obtain rfl : m = 0 := by omega
    have e9 : f9 = [] := List.eq_nil_of_length_eq_zero (unhide HL3)
    subst e9
    subst r4
    have HB0 : Hid (Bytes w' (some a') []) := ⟨by simp, by simp⟩
    go_quiet (first | (go_at_call 267; exact Calls.quiet_of_same (joined_len _ 4 _ f8 (unhide HL2) _ (unhide HB2) (by omega))) | (go_at_call 222; exact Calls.quiet_of_same (crc_len (some a') 0 0 [] rfl _ (unhide HB0) (fun _ => rfl) (Nat.zero_le _) (unhide HT))))
    go_wp2
    go_ret2
    exact ⟨rfl, _, _, rfl⟩
  · go_quiet (first | (go_at_call 267; exact Calls.quiet_of_same (joined_len _ 4 _ f8 (unhide HL2) _ (unhide HB2) (by omega))) | (go_at_call 222; exact Calls.quiet_of_same (crc_len _ _ _ f9 (unhide HL3) _ (unhide HB3) (fun h => by cases h) (by omega) (unhide HT))))
    go_wp2
    go_ret2
    exact ⟨rfl, _, _, rfl⟩

set_option maxRecDepth 8000 in
set_option maxHeartbeats 1000000 in
theorem frameAt_whole (a : Addr) (n cap at' m : Nat) (bs : List Nat) (hm : joinTo 0 (bs.take 4) = m) (hbl : bs.length = n - at') (w : World) (hb : Bytes w (some (a.add at')) bs) (h0 : at' ≤ n) (h1 : n ≤ cap) (h2 : at' + 4 ≤ n) (h3 : n ≤ 1000000000000)
    (h4 : m ≤ 65536) (h5 : at' + (8 + m) ≤ n) (hT : Table w)
    (h6 : joinTo 0 ((bs.drop 4).take 4) = Sum.crc ((bs.drop 8).take (m))) :
    Calls Tryz.prog 218 #[.slice (some a) n cap, .int .i64 at'] w fun e w' => e = .returned (.tuple #[.int .i64 ((8 + m : Nat) : Int), .nilIface]) ∧ ∃ k, w' = w.drewN k := by
  have hne : ¬ cap = at' := by omega
  have HM := hide hm
  clear hm
  have hcl : Sum.crc ((bs.drop 8).take (m)) < 4294967296 := Sum.crc_lt (fun x hx => hb.1 x (List.mem_of_mem_drop (List.mem_of_mem_take hx)))
  have HB := hide (hb.take 4)
  have HB2 := hide ((hb.drop 4).take 4)
  have HB3 := hide ((hb.drop 8).take (m))
  have HT := hide hT
  have HL := hide (show (bs.take 4).length = 4 by rw [List.length_take]; omega)
  have HL2 := hide (show ((bs.drop 4).take 4).length = 4 by rw [List.length_take, List.length_drop]; omega)
  have HL3 := hide (show ((bs.drop 8).take (m)).length = m by rw [List.length_take, List.length_drop]; omega)
  generalize (bs.drop 8).take (m) = f9 at *
  generalize (bs.drop 4).take 4 = f8 at *
  generalize bs.take 4 = f4 at *
  clear hb hbl hT
  go_enter Tryz.func218, Tryz.ntmps218
  go_wp2_with fail
  refine (joined_len _ 4 _ f4 (unhide HL) w (unhide HB) (by omega)).mono ?_
  rintro e w' ⟨rfl, rfl⟩
  rw [unhide HM]
  go_wp2_with fail
  have HC : Hid (n - at' ≤ cap - at' ∧ 8 + m ≤ n - at' ∧ n - at' ≤ 1000000000000) := by show _ ∧ _ ∧ _; omega
  clear h0 h1 h2 h3 h5 hne
  generalize n - at' = n' at *
  generalize cap - at' = c' at *
  generalize a.add at' = a' at *
  obtain ⟨q0, q1, q2⟩ := unhide HC
  have r1 : (8 : Int) ≤ c' := by omega
  have r2 : (8 : Int) + m ≤ c' := by omega
  have r3 : ¬ c' = 4 := by omega
  have h7 : (((joinTo 0 f8 : Nat) : Int) != ((Sum.crc f9 : Nat) : Int)) = false := by rw [h6]; simp
  have H6 := hide h6
  clear h6
  by_cases r4 : c' = 8
  · obtain rfl : m = 0 := by omega
    have e9 : f9 = [] := List.eq_nil_of_length_eq_zero (unhide HL3)
    subst e9
    subst r4
    have HB0 : Hid (Bytes w' (some a') []) := ⟨by simp, by simp⟩
    go_quiet (first | (go_at_call 267; exact Calls.quiet_of_same (joined_len _ 4 _ f8 (unhide HL2) _ (unhide HB2) (by omega))) | (go_at_call 222; exact Calls.quiet_of_same (crc_len (some a') 0 0 [] rfl _ (unhide HB0) (fun _ => rfl) (Nat.zero_le _) (unhide HT))))
    go_wp2
    go_ret2
    exact ⟨by simp, _, rfl⟩
  · go_quiet (first | (go_at_call 267; exact Calls.quiet_of_same (joined_len _ 4 _ f8 (unhide HL2) _ (unhide HB2) (by omega))) | (go_at_call 222; exact Calls.quiet_of_same (crc_len _ _ _ f9 (unhide HL3) _ (unhide HB3) (fun h => by cases h) (by omega) (unhide HT))))
    go_wp2
    go_ret2
    exact ⟨by simp, _, rfl⟩
end Go.Proofs.YtjplhiflemmkfaaGreatDoor
namespace Go.Proofs.YtjplhiflemmkfaaGreatDoor
open Go.RowKit

theorem drewN_below (w : World) (k : Nat) : Below w.heap.size w (w.drewN k) := ⟨rfl, rfl, rfl, Nat.le_refl _, fun _ _ => rfl⟩
theorem flaw_err {w : World} {p : Value} {n : Nat} (hn : n ≠ 0) : Err (w.alloc (.cells #[p, .iface 32 (.int .i64 (n : Int))] 315)) (.iface 313 (.pointer (some ⟨w.heap.size, 0, none⟩))) n :=
  Or.inr ⟨w.heap.size, hn, rfl, by rw [World.cell?_alloc_at _ _ _ _ (by simp)]; rfl⟩

theorem frameAt_any (ao : Option Addr) (cap at' : Nat) (bs : List Nat) (w : World) (hb : Bytes w ao bs) (h0 : at' ≤ bs.length) (h1 : bs.length ≤ cap) (h3 : bs.length ≤ 1000000000000) (hT : Table w) :
    Calls Tryz.prog 218 #[.slice ao bs.length cap, .int .i64 at'] w fun e w' =>
      (∃ er ev, frameOf (bs.drop at') = (er, none) ∧ e = .returned (.tuple #[.int .i64 0, ev]) ∧ Err w' ev er ∧ Below w.heap.size w w') ∨
      (∃ x, frameOf (bs.drop at') = (0, some x) ∧ e = .returned (.tuple #[.int .i64 ((8 + x.length : Nat) : Int), .nilIface]) ∧ x = ((bs.drop at').drop 8).take x.length ∧ at' + (8 + x.length) ≤ bs.length ∧ Below w.heap.size w w') := by
  have hl : (bs.drop at').length = bs.length - at' := List.length_drop
  by_cases c1 : bs.length < at' + 4
  · refine (frameAt_short ao bs.length cap at' w h0 h1 c1 h3).mono ?_
    rintro e w' ⟨rfl, rfl⟩
    refine Or.inl ⟨0, .nilIface, ?_, rfl, Or.inl ⟨rfl, rfl⟩, Below.refl _ _⟩
    unfold frameOf; rw [if_pos (by omega)]
  cases ao with
  | none => have := hb.none_nil; subst this; simp at c1
  | some a =>
    have hd := hb.drop at'
    generalize hr : bs.drop at' = r at *
    by_cases c2 : 65536 < joinTo 0 (r.take 4)
    · refine (frameAt_long a bs.length cap at' r hl w hd h0 h1 (by omega) h3 c2).mono ?_
      rintro e w' ⟨rfl, rfl⟩
      refine Or.inl ⟨5, _, ?_, rfl, flaw_err (n := 5) (by decide), (Below.refl _ _).alloc (Nat.le_refl _) _⟩
      unfold frameOf; rw [if_neg (by omega)]; simp only []; rw [if_pos c2]
    by_cases c3 : bs.length < at' + (8 + joinTo 0 (r.take 4))
    · refine (frameAt_part a bs.length cap at' r hl w hd h0 h1 (by omega) h3 (by omega) c3).mono ?_
      rintro e w' ⟨rfl, rfl⟩
      refine Or.inl ⟨0, .nilIface, ?_, rfl, Or.inl ⟨rfl, rfl⟩, Below.refl _ _⟩
      unfold frameOf; rw [if_neg (by omega)]; simp only []; rw [if_neg c2, if_pos (by omega)]
    by_cases c4 : joinTo 0 ((r.drop 4).take 4) = Sum.crc ((r.drop 8).take (joinTo 0 (r.take 4)))
    · refine (frameAt_whole a bs.length cap at' _ r rfl hl w hd h0 h1 (by omega) h3 (by omega) (by omega) hT c4).mono ?_
      rintro e w' ⟨rfl, k, rfl⟩
      have lx : ((r.drop 8).take (joinTo 0 (r.take 4))).length = joinTo 0 (r.take 4) := by rw [List.length_take, List.length_drop]; omega
      refine Or.inr ⟨(r.drop 8).take (joinTo 0 (r.take 4)), ?_, by rw [lx], by rw [lx], by rw [lx]; omega, drewN_below w k⟩
      unfold frameOf; rw [if_neg (by omega)]; simp only []; rw [if_neg c2, if_neg (by omega), if_neg (by simpa using c4)]
    · refine (frameAt_sum a bs.length cap at' r hl w hd h0 h1 (by omega) h3 (by omega) (by omega) hT c4).mono ?_
      rintro e w' ⟨rfl, k, p, rfl⟩
      refine Or.inl ⟨11, _, ?_, rfl, flaw_err (w := w.drewN k) (n := 11) (by decide), (drewN_below w k).alloc (Nat.le_refl _) _⟩
      unfold frameOf; rw [if_neg (by omega)]; simp only []; rw [if_neg c2, if_neg (by omega), if_pos c4]

theorem Own.below {base : Nat} {w w' : World} {v : Value} {bs : List Nat} (h : Own base w v bs) (hb : Below w.heap.size w w') : Own base w' v bs := ⟨own_below h.1 hb, h.2⟩
theorem Own.only {base base' : Nat} {ts : List TypeId} {w w' : World} {v : Value} {bs : List Nat} (h : Own base w v bs) (ho : Only base' ts w w') (ht : 5 ∉ ts) : Own base w' v bs := ⟨own_only h.1 ho ht, h.2⟩
theorem Own.rebase {base base' : Nat} {w : World} {v : Value} {bs : List Nat} (h : Own base w v bs) (hb : base' ≤ base) : Own base' w v bs := by
  refine ⟨⟨h.1.1, ?_⟩, h.2⟩
  rcases h.1.2 with h0 | ⟨g, cap, cur, e, hg, rest⟩
  · exact Or.inl h0
  · exact Or.inr ⟨g, cap, cur, e, Nat.le_trans hb hg, rest⟩

set_option maxHeartbeats 400000 in
theorem clone_some (a : Addr) (n cap : Nat) (bs : List Nat) (hn : bs.length = n) (w : World) (hb : Bytes w (some a) bs) (hl : n ≤ 1000000000) :
    Calls Tryz.prog 220 #[.slice (some a) n cap] w fun e w' => ∃ v, e = .returned v ∧ Own w.heap.size w' v bs ∧ Below w.heap.size w w' := by
  obtain ⟨i0, hi, hz0, hz1, hz2⟩ := info_parts Tryz.info5
  have HB := hide hb
  have HN := hide hn
  have hown : (w.alloc (.cells #[] 5)).ownsRow w.heap.size 5 1 (.slice (some ⟨w.heap.size, 0, none⟩) 0 0) 0 [] := World.ownsRow_lit w #[] 0 (Nat.le_refl _) (by decide) rfl
  have hnw := (hb.below ((Below.refl _ w).alloc (Nat.le_refl _) (.cells #[] 5))).news
  have hq := @Lib.run_eql_slice_nil Tryz.prog
  clear hb hn
  go_enter Tryz.func220, Tryz.ntmps220
  go_wp2_with (at_builtin; refine wpList_append_own _ rfl (.tmp 5) (.tmp 6) 55 rfl w.heap.size 5 i0 (.int .u8 0) 1 1 Tryz.underlying55 hi hz0 hz1 hz2 rfl (by decide) _ _ _ rfl hown a n cap (u8s bs) rfl (by have := unhide HN; simp [u8s, this]) hnw (u8s_one bs) (by unfold maxLen; omega) (by omega) (by simp) ?_)
  intro v w1 h1 hg1 _
  have hb1 : Below w.heap.size w w1 := ((Below.refl _ w).alloc (Nat.le_refl _) _).grown hg1 (by simp) (fun k hk => (hown.lt k hk).1)
  have HB1 := hide hb1
  have HO := hide h1
  clear hb1 hg1 hown hnw h1
  go_wp2
  go_ret
  have ho := unhide HO
  refine ⟨_, rfl, ⟨?_, (unhide HB).1⟩, unhide HB1⟩
  rw [unhide HN]; exact ho

theorem Tryz.info27 : (Tryz.prog.info? 55).map (fun i => (i.zero, i.size, i.bytes)) = some (some (.slice none 0 0), 1, 24) := by kernel_rfl
/-- the values vs are slices of the call's own, of the rows xs. -/
def RowsOf (base : Nat) (w : World) (vs : List Value) (xs : List (List Nat)) : Prop := vs.length = xs.length ∧ ∀ (i : Nat) (v : Value) (x : List Nat), vs[i]? = some v → xs[i]? = some x → Own base w v x
theorem RowsOf.nil (base : Nat) (w : World) : RowsOf base w [] [] := ⟨rfl, fun i v x h => by simp at h⟩
theorem RowsOf.snoc {base : Nat} {w : World} {vs : List Value} {xs : List (List Nat)} {v : Value} {x : List Nat} (h : RowsOf base w vs xs) (ho : Own base w v x) : RowsOf base w (vs ++ [v]) (xs ++ [x]) := by
  refine ⟨by simp [h.1], fun i u y hu hy => ?_⟩
  by_cases hi : i < vs.length
  · rw [List.getElem?_append_left hi] at hu
    rw [List.getElem?_append_left (by rw [← h.1]; exact hi)] at hy
    exact h.2 i u y hu hy
  · rw [List.getElem?_append_right (by omega)] at hu
    rw [List.getElem?_append_right (by rw [← h.1]; omega)] at hy
    rw [← h.1] at hy
    cases hj : i - vs.length with
    | zero => rw [hj] at hu hy; simp at hu hy; subst hu; subst hy; exact ho
    | succ j => rw [hj] at hu; simp at hu
theorem RowsOf.kept {base : Nat} {w w' : World} {vs : List Value} {xs : List (List Nat)} (h : RowsOf base w vs xs) (hk : ∀ v x, Own base w v x → Own base w' v x) : RowsOf base w' vs xs :=
  ⟨h.1, fun i v x hv hx => hk v x (h.2 i v x hv hx)⟩
theorem one_slice (ao : Option Addr) (n c : Nat) : ∀ u ∈ [Value.slice ao n c], u.oneCell' = true := by
  intro u hu; simp only [List.mem_cons, List.not_mem_nil, or_false] at hu; subst hu; rfl
theorem splitOf_none {f : Nat} {l : List Nat} {e : Nat} (h : frameOf l = (e, none)) (hf : 0 < f) : splitOf f l = ([], 0, e) := by
  cases f with
  | zero => omega
  | succ f => simp only [splitOf, h]
theorem splitOf_some {f : Nat} {l x : List Nat} {e : Nat} (h : frameOf l = (e, some x)) : splitOf (f + 1) l = (x :: (splitOf f (l.drop (8 + x.length))).1, 8 + x.length + (splitOf f (l.drop (8 + x.length))).2.1, (splitOf f (l.drop (8 + x.length))).2.2) := by
  simp only [splitOf, h]

/-- what Split has done when it stands at at'. -/
def Done (bs : List Nat) (done : List (List Nat)) (at' : Nat) : Prop :=
  ∃ fu, bs.length - at' < fu ∧ splitOf (bs.length + 1) bs = (done ++ (splitOf fu (bs.drop at')).1, at' + (splitOf fu (bs.drop at')).2.1, (splitOf fu (bs.drop at')).2.2)
theorem Done.start (bs : List Nat) : Done bs [] 0 := ⟨bs.length + 1, by omega, by simp⟩
theorem Done.stop {bs : List Nat} {done : List (List Nat)} {at' e : Nat} (h : Done bs done at') (hf : frameOf (bs.drop at') = (e, none)) : splitOf (bs.length + 1) bs = (done, at', e) := by
  obtain ⟨fu, h1, h2⟩ := h
  rw [h2, splitOf_none hf (by omega)]; simp
theorem Done.step {bs : List Nat} {done : List (List Nat)} {at' e : Nat} {x : List Nat} (h : Done bs done at') (hf : frameOf (bs.drop at') = (e, some x)) (hl : at' + (8 + x.length) ≤ bs.length) : Done bs (done ++ [x]) (at' + (8 + x.length)) := by
  obtain ⟨fu, h1, h2⟩ := h
  obtain ⟨f, rfl⟩ : ∃ f, fu = f + 1 := ⟨fu - 1, by omega⟩
  refine ⟨f, by omega, ?_⟩
  rw [h2, splitOf_some hf, List.drop_drop]
  simp only [List.append_assoc, List.cons_append, List.nil_append, Prod.mk.injEq, and_true, true_and]
  omega

set_option maxRecDepth 8000 in
set_option maxHeartbeats 2000000 in
theorem split_any (ao : Option Addr) (cap : Nat) (bs : List Nat) (w : World) (hb : Bytes w ao bs) (h1 : bs.length ≤ cap) (h3 : bs.length ≤ 1000000000) (hT : Table w) (hG : Glob w) (hz : 2 ≤ w.heap.size) :
    Calls Tryz.prog 150 #[.slice ao bs.length cap] w fun e w' => ∃ fv vs, e = .returned (.tuple #[fv, .int .i64 ((splitOf (bs.length + 1) bs).2.1 : Nat), .int .i64 ((splitOf (bs.length + 1) bs).2.2 : Nat)]) ∧
      w'.ownsRow w.heap.size 55 1 fv vs.length vs ∧ RowsOf w.heap.size w' vs (splitOf (bs.length + 1) bs).1 ∧ Below w.heap.size w w' := by
  obtain ⟨i0, hi, hz0, hz1, hz2⟩ := info_parts Tryz.info27
  have HB := hide hb
  have HT := hide hT
  have HG := hide hG
  have HZ := hide hz
  clear hb hT hG hz
  go_enter Tryz.func150, Tryz.ntmps150
  go_wp2_with fail
  go_loopg [5, 6] bs.length (fun k fv av wr => ∃ (done : List (List Nat)) (vs : List Value) (at' : Nat), at' ≤ bs.length ∧ k = bs.length - at' ∧ av = .int .i64 at' ∧ vs.length ≤ at' ∧ wr.ownsRow w.heap.size 55 1 fv vs.length vs ∧ RowsOf w.heap.size wr vs done ∧ Below w.heap.size w wr ∧ Done bs done at')
  case atStart => exact ⟨[], [], 0, Nat.zero_le _, by simp, rfl, Nat.le_refl _, World.ownsRow_nil _ _ _ _, RowsOf.nil _ _, Below.refl _ _, Done.start bs⟩
  case round =>
    obtain ⟨done, vs, at', ha, hk, rfl, hvl, hown, hrows, hbel, hdone⟩ := hrel
    have HK := hide hk
    have HO := hide hown
    have HR := hide hrows
    have HBel := hide hbel
    have HD := hide hdone
    have hsz := hbel.size
    clear hk hown hrows hbel hdone
    go_wp2_with fail
    refine (frameAt_any ao cap at' bs wr (unhide HB |>.kept (fun a i u hc ea => by rw [(unhide HBel).cell (blk_lt hc)]; exact hc)) ha h1 (by omega) ((unhide HT).below (unhide HBel) (by have := unhide HZ; omega))).mono ?_
    rintro e w1 (⟨er, ev, hf, rfl, he, hb1⟩ | ⟨x, hf, rfl, hx, hlx, hb1⟩)
    · have HF := hide hf
      have HE := hide he
      have HB1 := hide hb1
      clear hf he hb1
      go_wp2_with fail
      refine (number_any ev er w1 (((unhide HG).below (unhide HBel) (by have := unhide HZ; omega)).below (unhide HB1) (by have := unhide HZ; omega)) (unhide HE)).mono ?_
      rintro e w2 ⟨rfl, hb2⟩
      have HB2 := hide hb2
      clear hb2
      go_wp2
      go_ret3
      have es := (unhide HD).stop (unhide HF)
      have hb12 := (unhide HB1).trans ((unhide HB2).mono (unhide HB1).size)
      refine ⟨u5, vs, ?_, own_below (unhide HO) hb12, ?_, (unhide HBel).trans (hb12.mono hsz)⟩
      · rw [es]; rfl
      · rw [es]; exact (unhide HR).kept fun v x ho => ho.below hb12
    · obtain ⟨a, rfl⟩ : ∃ a, ao = some a := by
        cases ao with
        | none => have := (unhide HB).none_nil; subst this; simp at hlx
        | some a => exact ⟨a, rfl⟩
      have HF := hide hf
      have HB1 := hide hb1
      have hq : (((8 + x.length : Nat) : Int) == 0) = false := by simp; omega
      clear hf hb1
      have hbw : Below w.heap.size w w1 := (unhide HBel).trans ((unhide HB1).mono hsz)
      have hby : Bytes w1 (some a) bs := (unhide HB).kept (fun a i u hc ea => by rw [hbw.cell (blk_lt hc)]; exact hc)
      have hbx : Bytes w1 (some ⟨a.block, a.off + (at' + 7 + 1), none⟩) x := by
        have h := ((hby.drop (at' + 8)).take x.length)
        rw [List.drop_drop] at hx
        rw [← hx] at h
        exact h
      have hs1 := hbw.size
      have HX := hide hbx
      have HY := hide (fun (e : x = []) => (show Bytes w1 (some a) x from by subst e; exact ⟨by simp, by simp⟩))
      have HBW := hide hbw
      have hown1 := own_below (unhide HO) (unhide HB1)
      have HO1 := hide hown1
      have HR1 := hide ((unhide HR).kept fun v x ho => ho.below (unhide HB1))
      clear hx hbx hby hbw hown1 HO HR HB1 HBel
      go_wp2_with fail
      case inl =>
        subst_vars
        refine (clone_some a _ _ x (by omega) w1 (unhide HY (List.eq_nil_of_length_eq_zero (by omega))) (by omega)).mono ?_
        rintro e w2 ⟨v3, rfl, ho3, hb2⟩
        obtain ⟨ao3, cap3, rfl, _⟩ := ho3.slice
        have hown2 := own_below (unhide HO1) hb2
        have hs2 := hb2.size
        have HO3 := hide ho3
        have HB2 := hide hb2
        clear ho3 hb2
        go_wp2_with (at_builtin; refine wpList_append_own _ rfl (.tmp 21) (.tmp 30) 182 rfl w.heap.size 55 i0 (.slice none 0 0) 1 24 Tryz.underlying182 hi hz0 hz1 hz2 rfl (by decide) _ _ _ rfl (hown2.alloc _) ⟨w2.heap.size, 0, none⟩ 1 1 _ rfl rfl news_at (one_slice _ _ _) (by unfold maxLen; omega) (by omega) (by simp; omega) ?_)
        intro v4 w4 hown4 hg4 _
        have hk4 : Only w.heap.size [55] w2 w4 := ((Only.refl w.heap.size [55] w2).alloc (by omega) _).own (hown2.alloc _) hg4 (by simp; omega) (Nat.le_refl _) (by simp)
        have hr4 := (((unhide HR1).kept fun v x ho => ho.below (unhide HB2)).snoc ((unhide HO3).rebase hs1)).kept fun v x ho => ho.only hk4 (by simp)
        have hb4 : Below w.heap.size w w4 := ((unhide HBW).trans ((unhide HB2).mono hs1)).trans hk4.below
        have HO4 := hide hown4
        have HR4 := hide hr4
        have HB4 := hide hb4
        clear hown4 hr4 hb4 hk4 hg4 hown2
        go_wp2
        go_roundg (bs.length - (at' + (8 + x.length)))
        case measure => omega
        case rel => exact ⟨done ++ [x], vs ++ [.slice ao3 x.length cap3], at' + (8 + x.length), hlx, rfl, by simp, by simp; omega, by have h := unhide HO4; simpa using h, unhide HR4, unhide HB4, (unhide HD).step (unhide HF) hlx⟩
      case inr =>
        refine (clone_some _ _ _ x (by omega) w1 (unhide HX) (by omega)).mono ?_
        rintro e w2 ⟨v3, rfl, ho3, hb2⟩
        obtain ⟨ao3, cap3, rfl, _⟩ := ho3.slice
        have hown2 := own_below (unhide HO1) hb2
        have hs2 := hb2.size
        have HO3 := hide ho3
        have HB2 := hide hb2
        clear ho3 hb2
        go_wp2_with (at_builtin; refine wpList_append_own _ rfl (.tmp 21) (.tmp 30) 182 rfl w.heap.size 55 i0 (.slice none 0 0) 1 24 Tryz.underlying182 hi hz0 hz1 hz2 rfl (by decide) _ _ _ rfl (hown2.alloc _) ⟨w2.heap.size, 0, none⟩ 1 1 _ rfl rfl news_at (one_slice _ _ _) (by unfold maxLen; omega) (by omega) (by simp; omega) ?_)
        intro v4 w4 hown4 hg4 _
        have hk4 : Only w.heap.size [55] w2 w4 := ((Only.refl w.heap.size [55] w2).alloc (by omega) _).own (hown2.alloc _) hg4 (by simp; omega) (Nat.le_refl _) (by simp)
        have hr4 := (((unhide HR1).kept fun v x ho => ho.below (unhide HB2)).snoc ((unhide HO3).rebase hs1)).kept fun v x ho => ho.only hk4 (by simp)
        have hb4 : Below w.heap.size w w4 := ((unhide HBW).trans ((unhide HB2).mono hs1)).trans hk4.below
        have HO4 := hide hown4
        have HR4 := hide hr4
        have HB4 := hide hb4
        clear hown4 hr4 hb4 hk4 hg4 hown2
        go_wp2
        go_roundg (bs.length - (at' + (8 + x.length)))
        case measure => have := unhide HK; omega
        case rel => exact ⟨done ++ [x], vs ++ [.slice ao3 x.length cap3], at' + (8 + x.length), hlx, rfl, by simp, by simp; omega, by have h := unhide HO4; simpa using h, unhide HR4, unhide HB4, (unhide HD).step (unhide HF) hlx⟩
end Go.Proofs.YtjplhiflemmkfaaGreatDoor
namespace Go.Proofs.YtjplhiflemmkfaaGreatDoor
open Go.RowKit

/-- what the listed variables hold, and that they lie ahead of all else. -/
def Start (w : World) : Prop := Table w ∧ Glob w ∧ 2 ≤ w.heap.size
theorem Start.below {w w' : World} (h : Start w) (hb : Below w.heap.size w w') : Start w' :=
  ⟨h.1.below hb (by have := h.2.2; omega), h.2.1.below hb (by have := h.2.2; omega), Nat.le_trans h.2.2 hb.size⟩
theorem Start.upto {base : Nat} {w w' : World} (h : Start w) (hb : Below base w w') (hz : 2 ≤ base) : Start w' :=
  ⟨h.1.below hb (by omega), h.2.1.below hb (by omega), Nat.le_trans h.2.2 hb.size⟩
theorem bytes_new (w : World) (bs : List Nat) (h : ∀ x ∈ bs, x < 256) (t : TypeId) (fr : Nat × Nat) : Bytes (w.alloc (.cells (u8s bs).toArray t fr)) (some ⟨w.heap.size, 0, none⟩) bs := by
  refine ⟨h, fun i hi => ⟨_, rfl, ?_⟩⟩
  rw [Addr.add_lit]
  have e : (w.alloc (.cells (u8s bs).toArray t fr)).heap[w.heap.size]? = some (.cells (u8s bs).toArray t fr) := heap_alloc_new _ _
  simp only [World.cell?, e]
  simp [u8s, List.getD_eq_getElem?_getD, List.getElem?_eq_getElem hi]

end Go.Proofs.YtjplhiflemmkfaaGreatDoor
