/- wire's reader: integer, ruled, text: contracts by what they do to the place and to the first flaw. -/
import Derived.Test.YtjcllplgiffmgaaDoorReaderT
import Derived.Test.YtjcllplgiffmgaaDoorWriterE
import Derived.Test.YtjcllplgiffmgaaDoorBounds
namespace Go.Proofs.YtjcllplgiffmgaaDoor
open Go.RowKit

/-- the bytes that a reader reads. -/
structure Src (base : Nat) (w : World) (ao : Option Addr) (n m : Nat) (bs : List Nat) : Prop where
  len : bs.length = n
  room : n ≤ m
  nul : ao = none → m = 0
  big : n ≤ 1000000000000
  stay : ∀ w', Only base [113] w w' → Bytes w' ao bs
theorem Src.only {base : Nat} {w w' : World} {ao : Option Addr} {n m : Nat} {bs : List Nat} (h : Src base w ao n m bs) (ho : Only base [113] w w') : Src base w' ao n m bs :=
  ⟨h.len, h.room, h.nul, h.big, fun w2 h2 => h.stay w2 (ho.trans h2)⟩

theorem taken_le (bs : List Nat) (k : Nat) (s : Nat × Nat) : (taken bs k s).length ≤ k := by
  unfold taken; split
  · rw [List.length_take]; omega
  · simp
theorem taken_one (bs : List Nat) (s : Nat × Nat) (h : ∀ x ∈ taken bs 1 s, x < 256) : joinTo 0 (taken bs 1 s) < 256 := by
  have hl := taken_le bs 1 s
  generalize taken bs 1 s = l at *
  match l with
  | [] => simp [joinTo]
  | [x] => have := h x (by simp); simp [joinTo]; exact this
  | _ :: _ :: _ => simp at hl
theorem joined_n (ao : Option Addr) (n cap : Nat) (bs : List Nat) (hn : bs.length = n) (w : World) (hb : Bytes w ao bs) (hl : n ≤ 140737488355328) :
    Calls Tryd.prog 75 #[.slice ao n cap] w fun e w' => e = .returned (.int .u64 ((joinTo 0 bs : Nat) : Int)) ∧ w' = w := by
  subst hn
  cases ao with
  | none => exact joined_none cap bs w hb
  | some a => exact joined_some a cap bs w hb hl

/-- what integer answers. -/
def rint (bs : List Nat) (s : Nat × Nat) : Int := wrap64 ((joinTo 0 (taken bs 8 s) : Nat) : Int)

set_option maxHeartbeats 1000000 in
theorem integer_any (base p : Nat) (ao : Option Addr) (n cap : Nat) (s : Nat × Nat) (bs : List Nat) (w : World) (h : Re base w p ao n cap s.1 s.2) (hs : Src base w ao n cap bs) (hbase : base ≤ w.heap.size) :
    Calls Tryd.prog 64 #[.pointer (some ⟨p, 0, none⟩)] w fun e w' => e = .returned (.int .i64 (rint bs s)) ∧ Re base w' p ao n cap (rtake n 8 s).1 (rtake n 8 s).2 ∧ Only base [113] w w' := by
  have T := hide (take_any base p ao n cap s.1 s.2 bs hs.len 8 w h hbase hs.stay hs.room hs.nul hs.big (by decide))
  clear h hs
  go_enter Tryd.func64, Tryd.ntmps64
  go_wp2_with fail
  refine (unhide T).mono ?_
  rintro e w1 ⟨ao1, m1, cap1, rfl, l1, b1, _, c1, r1, k1⟩
  have hm := taken_le bs 8 (s.1, s.2)
  rw [l1] at hm
  have J := hide (joined_n ao1 m1 cap1 _ l1 w1 b1 (by omega))
  have R1 := hide r1
  have K1 := hide k1
  clear r1 k1 l1 b1 T
  go_wp2_with fail
  refine (unhide J).mono ?_
  rintro e w2 ⟨rfl, rfl⟩
  clear J
  go_wp2
  go_ret
  exact ⟨rfl, unhide R1, unhide K1⟩

/-- what ruled answers, and does. -/
def rrule (bs : List Nat) (q : Nat) (s : Nat × Nat) : Nat × (Nat × Nat) :=
  if refuse q (joinTo 0 (taken bs 1 s) : Nat) = 0 then (joinTo 0 (taken bs 1 s), rtake bs.length 1 s)
  else (0, ((rtake bs.length 1 s).1, if (rtake bs.length 1 s).2 = 0 then refuse q (joinTo 0 (taken bs 1 s) : Nat) else (rtake bs.length 1 s).2))

set_option maxHeartbeats 1000000 in
theorem druled_any (base p q : Nat) (hq : q < 7) (ao : Option Addr) (n cap : Nat) (s : Nat × Nat) (bs : List Nat) (w : World) (h : Re base w p ao n cap s.1 s.2) (hs : Src base w ao n cap bs) (hbase : base ≤ w.heap.size) :
    Calls Tryd.prog 63 #[.pointer (some ⟨p, 0, none⟩), .int .i64 q] w fun e w' => e = .returned (.int .i64 ((rrule bs q s).1 : Nat)) ∧ Re base w' p ao n cap (rrule bs q s).2.1 (rrule bs q s).2.2 ∧ Only base [113] w w' := by
  have T := hide (take_any base p ao n cap s.1 s.2 bs hs.len 1 w h hbase hs.stay hs.room hs.nul hs.big (by decide))
  have hbig := hs.big
  have e0 : bs.length = n := hs.len
  have e1 : rrule bs q s = if refuse q (joinTo 0 (taken bs 1 s) : Nat) = 0 then (joinTo 0 (taken bs 1 s), rtake n 1 s) else (0, ((rtake n 1 s).1, if (rtake n 1 s).2 = 0 then refuse q (joinTo 0 (taken bs 1 s) : Nat) else (rtake n 1 s).2)) := by unfold rrule; rw [e0]
  have E1 := hide e1
  clear h hs e0 e1
  go_enter Tryd.func63, Tryd.ntmps63
  go_wp2_with fail
  refine (unhide T).mono ?_
  rintro e w1 ⟨ao1, m1, cap1, rfl, l1, b1, _, c1, r1, k1⟩
  have hm := taken_le bs 1 (s.1, s.2)
  rw [l1] at hm
  have hv := taken_one bs (s.1, s.2) b1.1
  have J := hide (joined_n ao1 m1 cap1 _ l1 w1 b1 (by omega))
  have hsz := k1.size
  have R1 := hide r1
  have K1 := hide k1
  obtain ⟨ev1, hp1, hbp1, _, hpos1⟩ := r1
  have c1' : w1.cell? ⟨p, 1, none⟩ = some (.int .i64 (((rtake n 1 (s.1, s.2)).1 : Nat) : Int)) := (cell_of_block hp1).trans rfl
  clear k1 l1 b1 T hp1
  change Hid (rrule bs q s = if refuse q (joinTo 0 (taken bs 1 (s.1, s.2)) : Nat) = 0 then (joinTo 0 (taken bs 1 (s.1, s.2)), rtake n 1 (s.1, s.2)) else (0, ((rtake n 1 (s.1, s.2)).1, if (rtake n 1 (s.1, s.2)).2 = 0 then refuse q (joinTo 0 (taken bs 1 (s.1, s.2)) : Nat) else (rtake n 1 (s.1, s.2)).2))) at E1
  generalize rtake n 1 (s.1, s.2) = t at *
  generalize joinTo 0 (taken bs 1 (s.1, s.2)) = v at *
  obtain ⟨t1, t2⟩ := t
  go_wp2_with fail
  refine (unhide J).mono ?_
  rintro e w2 ⟨rfl, rfl⟩
  clear J
  go_wp2_with fail
  refine (refusal_any q hq (v : Int) w2).mono ?_
  rintro e w3 ⟨rfl, rfl⟩
  obtain ⟨rf, hrf⟩ : ∃ rf, refuse q (v : Int) = rf := ⟨_, rfl⟩
  rw [hrf] at E1 ⊢
  clear hrf
  by_cases hr : rf = 0
  · subst hr
    have e2 := unhide E1
    rw [if_pos rfl] at e2
    have E2 := hide e2
    clear E1 e2
    go_wp2
    go_ret
    rw [unhide E2]
    exact ⟨rfl, unhide R1, unhide K1⟩
  · have hri : ¬ (rf : Int) = 0 := by omega
    have e2 := unhide E1
    rw [if_neg hr] at e2
    have E2 := hide e2
    have HR := hide hr
    clear hr E1 e2
    go_wp2_with fail
    refine (fail_any base p ao n cap t1 t2 _ rf (unhide HR) w3 (unhide R1) (Nat.le_trans hbase hsz)).mono ?_
    rintro e w4 ⟨rfl, r4, k4⟩
    have R4 := hide r4
    have K4 := hide k4
    clear r4 k4
    go_wp2
    go_ret
    rw [unhide E2]
    exact ⟨rfl, unhide R4, (unhide K1).trans (unhide K4)⟩

/-- what text answers, and does. -/
def rtext (bs : List Nat) (s : Nat × Nat) : List Nat × (Nat × Nat) := (taken bs (rrule bs 4 s).1 (rrule bs 4 s).2, rtake bs.length (rrule bs 4 s).1 (rrule bs 4 s).2)
theorem rrule_le (bs : List Nat) (q : Nat) (s : Nat × Nat) : (rrule bs q s).1 ≤ 64 := by
  unfold rrule
  split
  · rename_i h; have := (refuse_range h).2; simp only; omega
  · simp
/-- a reader that is under way since w0. -/
def Rg (base : Nat) (w0 w : World) (p : Nat) (ao : Option Addr) (n cap : Nat) (bs : List Nat) (s : Nat × Nat) : Prop :=
  Re base w p ao n cap s.1 s.2 ∧ Src base w ao n cap bs ∧ base ≤ w.heap.size ∧ Only base [113] w0 w
theorem Rg.next {base : Nat} {w0 w w' : World} {p : Nat} {ao : Option Addr} {n cap : Nat} {bs : List Nat} {s s' : Nat × Nat} (h : Rg base w0 w p ao n cap bs s) (hr : Re base w' p ao n cap s'.1 s'.2) (hk : Only base [113] w w') : Rg base w0 w' p ao n cap bs s' :=
  ⟨hr, h.2.1.only hk, Nat.le_trans h.2.2.1 hk.size, h.2.2.2.trans hk⟩
theorem Only.fresh {base : Nat} {ts : List TypeId} {w w2 w3 : World} (h : Only base ts w w2) (hb : Below w.heap.size w2 w3) (hbase : base ≤ w.heap.size) : Only base ts w w3 := by
  refine ⟨h.1.trans (hb.mono hbase), fun k hk hn => ?_⟩
  rw [hb.block k hk]; exact h.2 k hk hn
end Go.Proofs.YtjcllplgiffmgaaDoor
