/- The reference's Sync, Append, Replace: contracts. -/
import Derived.Test.YtnohkbekljfehaaDoorTX
namespace Go.Proofs.YtnohkbekljfehaaDoor
open Go.RowKit

theorem xsync_eq (s : St) (hd : s.dead = false) (hr : s.bs.length ≤ s.room) : s.sync = (if s.goes.1 = true then (0, { s.goes.2 with syn := s.bs.length }) else (13, s.goes.2)) := by
  unfold St.sync
  rw [begin_goes s _ hd hr]
  cases s.goes.1 <;> simp [numOf]
theorem sync_dead (s : St) (hd : s.dead = true) : s.sync = (13, s) := by
  have e : s.begin s.bs.length = (13, s) := by unfold St.begin; rw [if_pos hd]
  simp [St.sync, e, numOf]
theorem append_dead (s : St) (b : List Nat) (hd : s.dead = true) : s.append b = (13, s) := by
  have e : s.begin (s.bs.length + b.length) = (13, s) := by unfold St.begin; rw [if_pos hd]
  simp [St.append, e, numOf]
theorem replace_dead (s : St) (b : List Nat) (hd : s.dead = true) : s.replace b = (13, s) := by
  have e : s.begin b.length = (13, s) := by unfold St.begin; rw [if_pos hd]
  simp [St.replace, e, numOf]
theorem xappend_eq (s : St) (b : List Nat) (hd : s.dead = false) (hr : s.bs.length + b.length ≤ s.room) : s.append b = (if s.goes.1 = true then 0 else 13, { s.goes.2 with bs := s.bs ++ b }) := by
  unfold St.append
  rw [begin_goes s _ hd hr]
  cases s.goes.1 <;> simp [numOf]
theorem append_full' (s : St) (b : List Nat) (h1 : s.dead = false) (h2 : s.room < s.bs.length + b.length) : s.append b = (14, s) := by
  have hb : s.begin (s.bs.length + b.length) = (14, s) := by
    unfold St.begin
    rw [if_neg (by simp [h1]), if_pos h2]
  simp only [St.append, hb]; rfl
theorem replace_full' (s : St) (b : List Nat) (h1 : s.dead = false) (h2 : s.room < b.length) : s.replace b = (14, s) := by
  have hb : s.begin b.length = (14, s) := by
    unfold St.begin
    rw [if_neg (by simp [h1]), if_pos h2]
  simp only [St.replace, hb]; rfl
theorem xreplace_eq (s : St) (b : List Nat) (hd : s.dead = false) (hr : b.length ≤ s.room) : s.replace b = (if s.goes.1 = true then (0, { s.goes.2 with bs := b, syn := b.length }) else (13, s.goes.2)) := by
  unfold St.replace
  rw [begin_goes s _ hd hr]
  cases s.goes.1 <;> simp [numOf]

set_option maxRecDepth 20000 in
set_option maxHeartbeats 1000000 in
theorem xsync_any (base p : Nat) (q : Option Nat) (s : St) (w : World) (h : XTp base w p q s) (ho : s.ops ≤ 4611686018427387904) (hl : s.left ≤ 9223372036854775807) :
    Calls Tryd.prog 16 #[.pointer (some ⟨p, 0, none⟩)] w fun e w' => e = .returned (.int .i64 ((s.sync.1 : Nat) : Int)) ∧ XTp base w' p q s.sync.2 ∧ Kept base (fun k => k = p) w w' := by
  have HT := hide h
  obtain ⟨v, L, hL, hv, hbp, hp, hown, hk⟩ := h
  have c5 : w.cell? ⟨p, 5, none⟩ = some (.bool s.dead) := (cell_of_block hp).trans rfl
  have hbr : s.bs.length ≤ s.room := hk.2.1
  have hlen : s.bs.length ≤ 1073741824 := by omega
  clear hp hown hk hv hL
  cases hd : s.dead with
  | true =>
    rw [sync_dead s hd]
    rw [hd] at c5
    clear hd
    go_enter Tryd.func16, Tryd.ntmps16
    go_wp2
    go_ret
    exact ⟨rfl, unhide HT, Kept.refl _ _ _⟩
  | false =>
    rw [xsync_eq s hd hbr]
    rw [hd] at c5
    have HD := hide hd
    clear hd
    have hgs := goes_same s
    obtain ⟨gb, s1, hg⟩ : ∃ gb s1, s.goes = (gb, s1) := ⟨_, _, rfl⟩
    rw [hg] at hgs ⊢
    simp only at hgs ⊢
    obtain ⟨ebs, _, _⟩ := hgs
    have HG := hide hg
    have EB := hide ebs
    clear hg ebs
    cases gb with
    | false =>
      simp only [Bool.false_eq_true, if_false]
      go_enter Tryd.func16, Tryd.ntmps16
      go_wp2_with fail
      refine (goes_any base p q s w (unhide HT) (unhide HD) ho hl).mono ?_
      rw [unhide HG]
      rintro e w1 ⟨rfl, t1, k1⟩
      have T1 := hide t1
      have K1 := hide k1
      clear t1 k1
      go_wp2
      go_ret
      exact ⟨rfl, unhide T1, unhide K1⟩
    | true =>
      simp only [if_true]
      go_enter Tryd.func16, Tryd.ntmps16
      go_wp2_with fail
      refine (goes_any base p q s w (unhide HT) (unhide HD) ho hl).mono ?_
      rw [unhide HG]
      rintro e w1 ⟨rfl, t1, k1⟩
      simp only at t1
      obtain ⟨v1, L1, hL1, hv1, _, hp1, hown1, hkk⟩ := t1
      obtain ⟨ao1, cap1, rfl, _⟩ := hown1.slice
      rw [unhide EB] at hp1
      have d2 : w1.cell? ⟨p, 2, none⟩ = some (.slice ao1 s.bs.length cap1) := (cell_of_block hp1).trans rfl
      have d1 : w1.cell? ⟨p, 1, none⟩ = some (.int .i64 (s1.syn : Int)) := (cell_of_block hp1).trans rfl
      have f1 : w1.frozen? ⟨p, 1, none⟩ = false := free_of_block hp1
      have K2 : Kept base (fun k => k = p) w1 (w1.setCell ⟨p, 1, none⟩ (.int .i64 (s.bs.length : Int))) := (Kept.refl base (fun k => k = p) w1).setCell (p := ⟨p, 1, none⟩) hbp rfl _
      have hne := hown1.ne hp1 (by decide)
      have o2 := hown1.kept K2 hne
      have hb2 := setCell_block (i := 1) (u := .int .i64 (s.bs.length : Int)) hp1
      have HB2 := hide hb2
      have O2 := hide o2
      have KK := hide (k1.trans K2 (fun _ _ x => x))
      have HL1 := hide hL1
      have HV1 := hide hv1
      have HKK := hide hkk
      clear hp1 hown1 hkk k1 K2 hne o2 hb2 hL1 hv1
      go_wp2
      go_ret
      refine ⟨rfl, ⟨_, L1, unhide HL1, unhide HV1, hbp, ?_, unhide O2, ?_, (unhide HKK).2⟩, unhide KK⟩
      · simp only
        rw [unhide EB]
        exact unhide HB2
      · simp only
        rw [unhide EB]; exact Nat.le_refl _

set_option maxRecDepth 20000 in
set_option maxHeartbeats 2000000 in
theorem xreplace_any (base p : Nat) (q : Option Nat) (s : St) (ao : Option Addr) (n cap : Nat) (b : List Nat) (hn : b.length = n) (w : World) (h : XTp base w p q s) (hb : base ≤ w.heap.size) (ho : s.ops ≤ 4611686018427387904) (hl : s.left ≤ 9223372036854775807)
    (hby : ∀ w', Kept base (fun k => k = p) w w' → Bytes w' ao b) (hcap : ao = none → cap = 0) (hbl : n ≤ 100000000000) :
    Calls Tryd.prog 18 #[.pointer (some ⟨p, 0, none⟩), .slice ao n cap] w fun e w' => ∃ q', e = .returned (.int .i64 (((s.replace b).1 : Nat) : Int)) ∧ XTp base w' p q' (s.replace b).2 ∧ Kept base (fun k => k = p) w w' ∧ Fresh w q q' := by
  have HT := hide h
  obtain ⟨v, L, hL, hv, hbp, hp, hown, hk⟩ := h
  have c5 : w.cell? ⟨p, 5, none⟩ = some (.bool s.dead) := (cell_of_block hp).trans rfl
  have c0 : w.cell? ⟨p, 0, none⟩ = some (.int .i64 (s.room : Int)) := (cell_of_block hp).trans rfl
  have hrm : s.room ≤ 1073741824 := hk.2.2
  have HBY := hide hby
  have HN := hide hn
  have HCAP := hide hcap
  clear hp hown hk hv hL hby hn hcap
  cases hd : s.dead with
  | true =>
    rw [replace_dead s b hd]
    rw [hd] at c5
    clear hd
    go_enter Tryd.func18, Tryd.ntmps18
    go_wp2
    go_ret
    exact ⟨q, rfl, unhide HT, Kept.refl _ _ _, Fresh.refl _ _⟩
  | false =>
    rw [hd] at c5
    by_cases hf : s.room < n
    · rw [replace_full' s b hd (by rw [unhide HN]; exact hf)]
      clear hd
      go_enter Tryd.func18, Tryd.ntmps18
      go_wp2
      go_ret
      exact ⟨q, rfl, unhide HT, Kept.refl _ _ _, Fresh.refl _ _⟩
    · rw [xreplace_eq s b hd (by rw [unhide HN]; omega)]
      have HD := hide hd
      clear hd
      have hgs := goes_same s
      obtain ⟨gb, s1, hg⟩ : ∃ gb s1, s.goes = (gb, s1) := ⟨_, _, rfl⟩
      rw [hg] at hgs ⊢
      simp only at hgs ⊢
      obtain ⟨_, erm, _⟩ := hgs
      have HG := hide hg
      have ERM := hide erm
      clear hg erm
      cases gb with
      | false =>
        simp only [Bool.false_eq_true, if_false]
        go_enter Tryd.func18, Tryd.ntmps18
        go_wp2_with fail
        refine (goes_any base p q s w (unhide HT) (unhide HD) ho hl).mono ?_
        rw [unhide HG]
        rintro e w1 ⟨rfl, t1, k1⟩
        have T1 := hide t1
        have K1 := hide k1
        clear t1 k1
        go_wp2
        go_ret
        exact ⟨q, rfl, unhide T1, unhide K1, Fresh.refl _ _⟩
      | true =>
        simp only [if_true]
        go_enter Tryd.func18, Tryd.ntmps18
        go_wp2_with fail
        refine (goes_any base p q s w (unhide HT) (unhide HD) ho hl).mono ?_
        rw [unhide HG]
        rintro e w1 ⟨rfl, t1, k1⟩
        simp only at t1
        have s1' := k1.size
        have kE := k1.alloc (Nat.le_trans hb s1') (.cells #[] 5)
        have YE := hide (unhide HBY _ kE)
        have OE := hide (own_empty base w1 (Nat.le_trans hb s1'))
        have TE := hide (t1.below ((Below.refl _ w1).alloc (Nat.le_refl _) (.cells #[] 5)))
        have KE := hide kE
        have hpne : p < w1.heap.size := t1.lt.2.1
        have qlt : ∀ k, q = some k → k < w1.heap.size := fun k hk => (t1.lt.2.2 k hk).2
        have QLT := hide qlt
        clear t1 k1 kE qlt
        go_wp2_with (at_builtin; refine wpList_append_bytes rfl (.tmp 20) (.tmp 21) rfl base _ [] 0 rfl rfl (unhide OE) ao n cap b rfl (unhide HN) (unhide YE) (unhide HCAP) (by omega) (by simp; omega) ?_)
        intro ao2 cap2 w2 o2 k2 hat2
        have t2 := (unhide TE).kept k2 (fun e => by simp only [Value.ownBlock, Option.some.injEq] at e; omega) (fun k hk e => by
          have h1 := unhide QLT k hk
          simp only [Value.ownBlock, Option.some.injEq] at e; omega)
        obtain ⟨v2, L2, hL2, hv2, _, hp2, _, hkk⟩ := t2
        have d2 : w2.cell? ⟨p, 2, none⟩ = some v2 := (cell_of_block hp2).trans rfl
        have d1 : w2.cell? ⟨p, 1, none⟩ = some (.int .i64 (s1.syn : Int)) := (cell_of_block hp2).trans rfl
        have f2 : w2.frozen? ⟨p, 2, none⟩ = false := free_of_block hp2
        have f1 : w2.frozen? ⟨p, 1, none⟩ = false := free_of_block hp2
        have K3 : ∀ u u', Kept base (fun k => k = p) w2 ((w2.setCell ⟨p, 2, none⟩ u).setCell ⟨p, 1, none⟩ u') := fun u u' => ((Kept.refl base (fun k => k = p) w2).setCell (p := ⟨p, 2, none⟩) hbp rfl u).setCell (p := ⟨p, 1, none⟩) hbp rfl u'
        have hne := o2.ne hp2 (by decide)
        have kk2 : Kept base (fun k => k = p) w w2 := (unhide KE).trans k2 (fun j hj e => by simp only [Value.ownBlock, Option.some.injEq] at e; omega)
        have fr : Fresh w q (Value.slice ao2 n cap2).ownBlock := fun k hk => by
          right
          rcases hat2 with h1 | h1
          · rw [h1] at hk; simp only [Value.ownBlock, Option.some.injEq] at hk; omega
          · rw [h1] at hk; simp at hk; omega
        have HP2 := hide hp2
        have O2 := hide o2
        have KK2 := hide kk2
        have KK3 := hide K3
        have HNE := hide hne
        have FR := hide fr
        have HL2 := hide hL2
        have HKK := hide hkk
        clear hp2 o2 k2 hat2 kk2 K3 hne fr hL2 hkk hv2
        go_wp2
        go_ret
        refine ⟨_, rfl, ⟨_, L2, unhide HL2, rfl, hbp, ?_, ?_, ?_⟩, (unhide KK2).trans (unhide KK3 _ _) (fun _ _ x => x), unhide FR⟩
        · simp only
          rw [unhide HN]
          exact setCell_block (setCell_block (unhide HP2))
        · have h1 := (unhide O2).kept (unhide KK3 (.slice ao2 n cap2) (.int .i64 (n : Int))) (by simpa using unhide HNE)
          simpa using h1
        · refine ⟨Nat.le_refl _, ?_, (unhide HKK).2.2⟩
          simp only
          rw [unhide HN, unhide ERM]; omega

set_option maxRecDepth 20000 in
set_option maxHeartbeats 2000000 in
theorem xappend_any (base p : Nat) (q : Option Nat) (s : St) (ao : Option Addr) (n cap : Nat) (b : List Nat) (hn : b.length = n) (w : World) (h : XTp base w p q s) (hb : base ≤ w.heap.size) (ho : s.ops ≤ 4611686018427387904) (hl : s.left ≤ 9223372036854775807)
    (hby : ∀ w', Kept base (fun k => k = p) w w' → Bytes w' ao b) (hcap : ao = none → cap = 0) (hbl : n ≤ 100000000000) :
    Calls Tryd.prog 14 #[.pointer (some ⟨p, 0, none⟩), .slice ao n cap] w fun e w' => ∃ q', e = .returned (.int .i64 (((s.append b).1 : Nat) : Int)) ∧ XTp base w' p q' (s.append b).2 ∧ Kept base (fun k => k = p) w w' ∧ Fresh w q q' := by
  have HT := hide h
  obtain ⟨v, L, hL, hv, hbp, hp, hown, hk⟩ := h
  obtain ⟨aov, capv, rfl, _⟩ := hown.slice
  have c5 : w.cell? ⟨p, 5, none⟩ = some (.bool s.dead) := (cell_of_block hp).trans rfl
  have c0 : w.cell? ⟨p, 0, none⟩ = some (.int .i64 (s.room : Int)) := (cell_of_block hp).trans rfl
  have c2 : w.cell? ⟨p, 2, none⟩ = some (.slice aov s.bs.length capv) := (cell_of_block hp).trans rfl
  have hrm : s.room ≤ 1073741824 := hk.2.2
  have hlen : s.bs.length ≤ 1073741824 := by omega
  have x1 : IntKind.i64.wrap ((s.bs.length : Int) + (n : Int)) = (s.bs.length : Int) + (n : Int) := IntWalk.i64_in _ (by omega)
  have HBY := hide hby
  have HN := hide hn
  have HCAP := hide hcap
  clear hp hown hk hv hL hby hn hcap
  cases hd : s.dead with
  | true =>
    rw [append_dead s b hd]
    rw [hd] at c5
    clear hd
    go_enter Tryd.func14, Tryd.ntmps14
    go_wp2
    go_ret
    exact ⟨q, rfl, unhide HT, Kept.refl _ _ _, Fresh.refl _ _⟩
  | false =>
    rw [hd] at c5
    by_cases hf : s.room < s.bs.length + n
    · rw [append_full' s b hd (by rw [unhide HN]; exact hf)]
      clear hd
      go_enter Tryd.func14, Tryd.ntmps14
      go_wp2
      go_quiet (fail)
      go_wp2
      go_ret
      have bq := drewN_below w nq
      exact ⟨q, rfl, (unhide HT).below bq, Kept.of_below bq hb, Fresh.refl _ _⟩
    · rw [xappend_eq s b hd (by rw [unhide HN]; omega)]
      have HD := hide hd
      clear hd
      have hgs := goes_same s
      obtain ⟨gb, s1, hg⟩ : ∃ gb s1, s.goes = (gb, s1) := ⟨_, _, rfl⟩
      rw [hg] at hgs ⊢
      simp only at hgs ⊢
      obtain ⟨ebs, erm, esy⟩ := hgs
      have HG := hide hg
      have ERM := hide erm
      have EBS := hide ebs
      have ESY := hide esy
      clear hg erm ebs esy
      cases gb with
      | false =>
        simp only [Bool.false_eq_true, if_false]
        go_enter Tryd.func14, Tryd.ntmps14
        go_wp2
        go_quiet (fail)
        have bq := drewN_below w nq
        have TQ := hide ((unhide HT).below bq)
        have KQ : Hid (Kept base (fun k => k = p) w (w.drewN nq)) := Kept.of_below bq hb
        have sq : (w.drewN nq).heap.size = w.heap.size := rfl
        clear bq
        go_wp2_with fail
        refine (goes_any base p q s (w.drewN nq) (unhide TQ) (unhide HD) ho hl).mono ?_
        rw [unhide HG]
        rintro e w1 ⟨rfl, t1, k1⟩
        simp only at t1
        have kk1 := (unhide KQ).trans k1 (fun _ _ x => x)
        have s1' := kk1.size
        have kE := kk1.alloc (Nat.le_trans hb s1') (.cells #[] 5)
        have tE := t1.below ((Below.refl _ w1).alloc (Nat.le_refl _) (.cells #[] 5))
        have OE := hide (own_empty base w1 (Nat.le_trans hb s1'))
        have KE := hide kE
        have hpne : p < w1.heap.size := t1.lt.2.1
        have qlt : ∀ k, q = some k → k < w1.heap.size := fun k hk => (t1.lt.2.2 k hk).2
        have QLT := hide qlt
        have TE := hide tE
        obtain ⟨v1, L1, hL1, hv1, _, hp1, hown1, hkk⟩ := tE
        obtain ⟨ao1, cap1, rfl, hcap1, _, by1, hn1, _⟩ := hown1.slice
        rw [unhide EBS] at hp1 by1
        have e1 : (w1.alloc (.cells #[] 5)).cell? ⟨p, 2, none⟩ = some (.slice ao1 s.bs.length cap1) := (cell_of_block hp1).trans rfl
        have Y1 := hide by1
        have N1 := hide hn1
        clear t1 k1 kk1 kE qlt hp1 hown1 hkk by1 hn1 hL1 hv1 c0 c2 c5 x1
        have e1' : w1.cell? ⟨p, 2, none⟩ = some (.slice ao1 s.bs.length cap1) := by rw [← e1, ((Below.refl w1.heap.size w1).alloc (Nat.le_refl _) _).cell hpne]
        clear e1
        go_wp2_with (at_builtin; refine wpList_append_bytes rfl (.tmp 26) (.tmp 30) rfl base _ [] 0 rfl rfl (unhide OE) ao1 s.bs.length cap1 s.bs rfl rfl (unhide Y1) (unhide N1) (by omega) (by simp; omega) ?_)
        intro ao2 cap2 w2 o2 k2 hat2
        have hat2' : ∀ k, (Value.slice ao2 s.bs.length cap2).ownBlock = some k → w1.heap.size ≤ k := fun k hk => by
          rcases hat2 with h1 | h1
          · rw [h1] at hk; simp only [Value.ownBlock, Option.some.injEq] at hk; omega
          · rw [h1] at hk; simp at hk; omega
        have t2 := (unhide TE).kept k2 (fun e => by simp only [Value.ownBlock, Option.some.injEq] at e; omega) (fun k hk e => by
          have h1 := unhide QLT k hk
          simp only [Value.ownBlock, Option.some.injEq] at e; omega)
        have kk2 : Kept base (fun k => k = p) w w2 := (unhide KE).trans k2 (fun j hj e => by simp only [Value.ownBlock, Option.some.injEq] at e; omega)
        have Y2 := hide (unhide HBY _ kk2)
        have T2 := hide t2
        have KK2 := hide kk2
        have O2 := hide o2
        have HAT2 := hide hat2'
        have s2 := kk2.size
        clear t2 kk2 o2 k2 hat2 hat2' e1'
        go_wp2_with (at_builtin; refine wpList_append_bytes rfl (.tmp 31) (.tmp 32) rfl base _ s.bs s.bs.length rfl rfl (unhide O2) ao n cap b rfl (unhide HN) (unhide Y2) (unhide HCAP) (by omega) (Nat.le_trans hb s2) ?_)
        intro ao3 cap3 w3 o3 k3 hat3
        have t3 := (unhide T2).kept k3 (fun e => by have := unhide HAT2 p e; omega) (fun k hk e => by have := unhide HAT2 k e; have := unhide QLT k hk; omega)
        obtain ⟨v3, L3, hL3, hv3, _, hp3, _, hkk⟩ := t3
        have d2 : w3.cell? ⟨p, 2, none⟩ = some v3 := (cell_of_block hp3).trans rfl
        have f2 : w3.frozen? ⟨p, 2, none⟩ = false := free_of_block hp3
        have K4 : ∀ u, Kept base (fun k => k = p) w3 (w3.setCell ⟨p, 2, none⟩ u) := fun u => (Kept.refl base (fun k => k = p) w3).setCell (p := ⟨p, 2, none⟩) hbp rfl u
        have hne := o3.ne hp3 (by decide)
        have kk3 : Kept base (fun k => k = p) w w3 := (unhide KK2).trans k3 (fun j hj e => by have := unhide HAT2 j e; omega)
        have fr : Fresh w q (Value.slice ao3 (s.bs.length + n) cap3).ownBlock := fun k hk => by
          right
          rcases hat3 with h1 | h1
          · rw [h1] at hk; have := unhide HAT2 k hk; omega
          · rw [h1] at hk; simp at hk; omega
        have HP3 := hide hp3
        have O3 := hide o3
        have KK3 := hide kk3
        have KK4 := hide K4
        have HNE := hide hne
        have FR := hide fr
        have HL3 := hide hL3
        have HKK := hide hkk
        clear hp3 o3 k3 hat3 kk3 K4 hne fr hL3 hkk hv3
        go_wp2
        go_ret
        refine ⟨_, rfl, ⟨_, L3, unhide HL3, rfl, hbp, ?_, (unhide O3).kept (unhide KK4 _) (unhide HNE), ?_⟩, (unhide KK3).trans (unhide KK4 _) (fun _ _ x => x), unhide FR⟩
        · exact setCell_block (unhide HP3)
        · have h1 := unhide HKK
          rw [unhide EBS] at h1
          refine ⟨by simp only [List.length_append]; omega, ?_, h1.2.2⟩
          simp only [List.length_append]
          rw [unhide HN, unhide ERM]; omega
      | true =>
        simp only [if_true]
        go_enter Tryd.func14, Tryd.ntmps14
        go_wp2
        go_quiet (fail)
        have bq := drewN_below w nq
        have TQ := hide ((unhide HT).below bq)
        have KQ : Hid (Kept base (fun k => k = p) w (w.drewN nq)) := Kept.of_below bq hb
        have sq : (w.drewN nq).heap.size = w.heap.size := rfl
        clear bq
        go_wp2_with fail
        refine (goes_any base p q s (w.drewN nq) (unhide TQ) (unhide HD) ho hl).mono ?_
        rw [unhide HG]
        rintro e w1 ⟨rfl, t1, k1⟩
        simp only at t1
        have kk1 := (unhide KQ).trans k1 (fun _ _ x => x)
        have s1' := kk1.size
        have kE := kk1.alloc (Nat.le_trans hb s1') (.cells #[] 5)
        have tE := t1.below ((Below.refl _ w1).alloc (Nat.le_refl _) (.cells #[] 5))
        have OE := hide (own_empty base w1 (Nat.le_trans hb s1'))
        have KE := hide kE
        have hpne : p < w1.heap.size := t1.lt.2.1
        have qlt : ∀ k, q = some k → k < w1.heap.size := fun k hk => (t1.lt.2.2 k hk).2
        have QLT := hide qlt
        have TE := hide tE
        obtain ⟨v1, L1, hL1, hv1, _, hp1, hown1, hkk⟩ := tE
        obtain ⟨ao1, cap1, rfl, hcap1, _, by1, hn1, _⟩ := hown1.slice
        rw [unhide EBS] at hp1 by1
        have e1 : (w1.alloc (.cells #[] 5)).cell? ⟨p, 2, none⟩ = some (.slice ao1 s.bs.length cap1) := (cell_of_block hp1).trans rfl
        have Y1 := hide by1
        have N1 := hide hn1
        clear t1 k1 kk1 kE qlt hp1 hown1 hkk by1 hn1 hL1 hv1 c0 c2 c5 x1
        have e1' : w1.cell? ⟨p, 2, none⟩ = some (.slice ao1 s.bs.length cap1) := by rw [← e1, ((Below.refl w1.heap.size w1).alloc (Nat.le_refl _) _).cell hpne]
        clear e1
        go_wp2_with (at_builtin; refine wpList_append_bytes rfl (.tmp 26) (.tmp 30) rfl base _ [] 0 rfl rfl (unhide OE) ao1 s.bs.length cap1 s.bs rfl rfl (unhide Y1) (unhide N1) (by omega) (by simp; omega) ?_)
        intro ao2 cap2 w2 o2 k2 hat2
        have hat2' : ∀ k, (Value.slice ao2 s.bs.length cap2).ownBlock = some k → w1.heap.size ≤ k := fun k hk => by
          rcases hat2 with h1 | h1
          · rw [h1] at hk; simp only [Value.ownBlock, Option.some.injEq] at hk; omega
          · rw [h1] at hk; simp at hk; omega
        have t2 := (unhide TE).kept k2 (fun e => by simp only [Value.ownBlock, Option.some.injEq] at e; omega) (fun k hk e => by
          have h1 := unhide QLT k hk
          simp only [Value.ownBlock, Option.some.injEq] at e; omega)
        have kk2 : Kept base (fun k => k = p) w w2 := (unhide KE).trans k2 (fun j hj e => by simp only [Value.ownBlock, Option.some.injEq] at e; omega)
        have Y2 := hide (unhide HBY _ kk2)
        have T2 := hide t2
        have KK2 := hide kk2
        have O2 := hide o2
        have HAT2 := hide hat2'
        have s2 := kk2.size
        clear t2 kk2 o2 k2 hat2 hat2' e1'
        go_wp2_with (at_builtin; refine wpList_append_bytes rfl (.tmp 31) (.tmp 32) rfl base _ s.bs s.bs.length rfl rfl (unhide O2) ao n cap b rfl (unhide HN) (unhide Y2) (unhide HCAP) (by omega) (Nat.le_trans hb s2) ?_)
        intro ao3 cap3 w3 o3 k3 hat3
        have t3 := (unhide T2).kept k3 (fun e => by have := unhide HAT2 p e; omega) (fun k hk e => by have := unhide HAT2 k e; have := unhide QLT k hk; omega)
        obtain ⟨v3, L3, hL3, hv3, _, hp3, _, hkk⟩ := t3
        have d2 : w3.cell? ⟨p, 2, none⟩ = some v3 := (cell_of_block hp3).trans rfl
        have f2 : w3.frozen? ⟨p, 2, none⟩ = false := free_of_block hp3
        have K4 : ∀ u, Kept base (fun k => k = p) w3 (w3.setCell ⟨p, 2, none⟩ u) := fun u => (Kept.refl base (fun k => k = p) w3).setCell (p := ⟨p, 2, none⟩) hbp rfl u
        have hne := o3.ne hp3 (by decide)
        have kk3 : Kept base (fun k => k = p) w w3 := (unhide KK2).trans k3 (fun j hj e => by have := unhide HAT2 j e; omega)
        have fr : Fresh w q (Value.slice ao3 (s.bs.length + n) cap3).ownBlock := fun k hk => by
          right
          rcases hat3 with h1 | h1
          · rw [h1] at hk; have := unhide HAT2 k hk; omega
          · rw [h1] at hk; simp at hk; omega
        have HP3 := hide hp3
        have O3 := hide o3
        have KK3 := hide kk3
        have KK4 := hide K4
        have HNE := hide hne
        have FR := hide fr
        have HL3 := hide hL3
        have HKK := hide hkk
        clear hp3 o3 k3 hat3 kk3 K4 hne fr hL3 hkk hv3
        go_wp2
        go_ret
        refine ⟨_, rfl, ⟨_, L3, unhide HL3, rfl, hbp, ?_, (unhide O3).kept (unhide KK4 _) (unhide HNE), ?_⟩, (unhide KK3).trans (unhide KK4 _) (fun _ _ x => x), unhide FR⟩
        · exact setCell_block (unhide HP3)
        · have h1 := unhide HKK
          rw [unhide EBS] at h1
          refine ⟨by simp only [List.length_append]; omega, ?_, h1.2.2⟩
          simp only [List.length_append]
          rw [unhide HN, unhide ERM]; omega
end Go.Proofs.YtnohkbekljfehaaDoor
