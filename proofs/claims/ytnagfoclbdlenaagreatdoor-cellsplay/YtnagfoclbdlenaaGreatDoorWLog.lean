/- wal's log in memory; framed, Append, Sync, Keep, Size: contracts. -/
import Derived.Test.YtnagfoclbdlenaaGreatDoorWErr
import Derived.Test.YtnagfoclbdlenaaGreatDoorWCat
namespace Go.Proofs.YtnagfoclbdlenaaGreatDoor
open Go.RowKit

/-- a slice of slices of bytes: what it holds. -/
def RowsArg (w : World) (ao : Option Addr) (xs : List (List Nat)) : Prop :=
  ∀ i, i < xs.length → ∃ a r cap, ao = some a ∧ w.cell? (a.add i) = some (.slice r (xs.getD i []).length cap) ∧ Bytes w r (xs.getD i []) ∧ (xs.getD i []).length ≤ cap ∧ (r = none → cap = 0)
theorem RowsArg.upto {w w' : World} {ao : Option Addr} {xs : List (List Nat)} (h : RowsArg w ao xs) (hb : Below w.heap.size w w') : RowsArg w' ao xs := by
  intro i hi
  obtain ⟨a, r, cap, e, hc, hby, h1, h2⟩ := h i hi
  exact ⟨a, r, cap, e, by rw [hb.cell (blk_lt hc)]; exact hc, hby.below hb, h1, h2⟩
theorem getD_mem {xs : List (List Nat)} {k : Nat} (h : k < xs.length) : xs.getD k [] ∈ xs := by
  rw [List.getD_eq_getElem?_getD, List.getElem?_eq_getElem h]; exact List.getElem_mem h
theorem takes_few {xs : List (List Nat)} (h : Fit xs) : takes xs ≤ xs.length * 65544 := takes_le (m := 65536) fun x hx => (h x hx).2

set_option maxHeartbeats 1000000 in
theorem framed_any (ao : Option Addr) (n cap : Nat) (xs : List (List Nat)) (hn : xs.length = n) (w : World) (hr : RowsArg w ao xs) (hf : Fit xs) (hl : n ≤ 1000) (hT : Table w) (hz : 4 ≤ w.heap.size) :
    Calls Tryz.prog 53 #[.slice ao n cap] w fun e w' => ∃ v, e = .returned (.tuple #[v, .int .i64 0]) ∧ Own w.heap.size w' v (cats xs) ∧ Below w.heap.size w w' := by
  have HN := hide hn
  have HR := hide hr
  have HF := hide hf
  have HT := hide hT
  clear hn hr hf hT
  go_enter Tryz.func53, Tryz.ntmps53
  go_wp2_with fail
  go_loopg [4, 11] n (fun gg av iv wr => ∃ (k : Nat) (ao' : Option Addr) (m cap' : Nat), k ≤ n ∧ gg = n - k ∧ iv = .int .i64 k ∧ takes (xs.take k) = m ∧ av = .slice ao' m cap' ∧ Own w.heap.size wr (.slice ao' m cap') (cats (xs.take k)) ∧ Below w.heap.size w wr)
  case atStart => exact ⟨0, none, 0, 0, Nat.zero_le _, rfl, rfl, rfl, rfl, Own.nil _ _, Below.refl _ _⟩
  case round =>
    obtain ⟨k, ao', m, cap', hk, hg, rfl, hm, rfl, hown, hbel⟩ := hrel
    have hmb : m ≤ 65544000 := by
      have h1 := takes_few ((unhide HF).take k)
      rw [List.length_take, unhide HN, Nat.min_eq_left hk] at h1
      omega
    have HG := hide hg
    have HM := hide hm
    have OW := hide hown
    have BEL := hide hbel
    have hsz := hbel.size
    clear hg hm hown hbel
    by_cases hkn : k < n
    · have hkx : k < xs.length := by rw [unhide HN]; exact hkn
      obtain ⟨ad, r, cp, rfl, hcell, hby, hlc, hrn⟩ := (unhide HR).upto (unhide BEL) k hkx
      have hfx := unhide HF _ (getD_mem hkx)
      have hsu := take_succ xs [] k hkx
      generalize xs.getD k [] = x at *
      have HBY := hide hby
      have HRN := hide hrn
      have HFX := hide hfx.1
      have hxl := hfx.2
      have HSU := hide hsu
      have HKX := hide hkx
      have T1 := hide ((unhide HT).below (unhide BEL) (by omega))
      clear hby hrn hfx hsu hkx
      go_wp2_with fail
      refine (frame_any r cp x wr (unhide HBY) (unhide HRN) hxl (unhide T1) (by omega)).mono ?_
      rintro e w2 ⟨v2, rfl, o2, b2⟩
      obtain ⟨ao2, cap2, rfl, _, _, by2, hc2, _⟩ := o2.slice
      have fl := frame_length x
      rw [fl]
      have O2 := hide ((unhide OW).below b2)
      have BY2 := hide by2
      have HC2 := hide hc2
      have s2 := b2.size
      have B2 := hide ((unhide BEL).trans (b2.mono hsz))
      have FL := hide fl
      clear o2 b2 by2 hc2 fl OW BEL
      go_wp2_with (at_builtin; refine wpList_append_bytes rfl (.tmp 23) (.tmp 24) rfl w.heap.size _ (cats (xs.take k)) m ((cats_len _).trans (unhide HM)) rfl (unhide O2) ao2 (8 + x.length) cap2 (frame x) rfl (unhide FL) (unhide BY2) (unhide HC2) (by omega) (by omega) ?_)
      intro ao3 cap3 w3 o3 k3 _
      have O3 := hide o3
      have B3 := hide ((unhide B2).trans k3.1)
      clear o3 k3
      go_wp2
      go_roundg (n - (k + 1))
      case measure => have := unhide HG; omega
      case rel =>
        refine ⟨k + 1, ao3, m + (8 + x.length), cap3, by omega, rfl, by go_num, ?_, rfl, ?_, unhide B3⟩
        · rw [unhide HSU, takes_snoc, unhide HM]
        · rw [unhide HSU, cats_snoc]; exact unhide O3
    · have e : xs.take k = xs := List.take_of_length_le (by rw [unhide HN]; omega)
      go_wp2
      go_ret2
      refine ⟨_, rfl, ?_, unhide BEL⟩
      have h := unhide OW
      rw [e] at h
      exact h

/-- a log: block l; its tape: block p. -/
def Lg (base : Nat) (w : World) (l p : Nat) (q : Option Nat) (s : St) (n : Nat) : Prop :=
  base ≤ l ∧ w.heap[l]? = some (.cells #[.pointer (some ⟨p, 0, none⟩), .int .i64 (n : Int)] 80 (0, 0)) ∧ Tp base w p q s
/-- the blocks that a log's calls turn. -/
def lfoot (l p : Nat) (q : Option Nat) (k : Nat) : Prop := k = l ∨ foot p q k
theorem Lg.ne {base : Nat} {w : World} {l p : Nat} {q : Option Nat} {s : St} {n : Nat} (h : Lg base w l p q s n) : ¬ foot p q l := by
  obtain ⟨_, h2, v, hv, _, hp, hown, _⟩ := h
  intro hf
  rcases hf with rfl | hf
  · rw [h2] at hp; cases hp
  · exact hown.ne h2 (by decide) l (hv.trans hf) rfl
theorem Lg.tape {base : Nat} {w : World} {l p : Nat} {q : Option Nat} {s : St} {n : Nat} (h : Lg base w l p q s n) : Tp base w p q s := h.2.2
theorem Lg.below {base : Nat} {w w' : World} {l p : Nat} {q : Option Nat} {s : St} {n : Nat} (h : Lg base w l p q s n) (hb : Below w.heap.size w w') : Lg base w' l p q s n :=
  ⟨h.1, by rw [hb.block l (blk_lt' h.2.1)]; exact h.2.1, h.2.2.below hb⟩
theorem Lg.kept {base b : Nat} {f : Nat → Prop} {w w' : World} {l p : Nat} {q : Option Nat} {s : St} {n : Nat} (h : Lg base w l p q s n) (hk : Kept b f w w') (hn : ∀ k, lfoot l p q k → ¬ f k) : Lg base w' l p q s n :=
  ⟨h.1, by rw [hk.2 l (blk_lt' h.2.1) (hn l (Or.inl rfl))]; exact h.2.1, h.2.2.kept hk (hn p (Or.inr (Or.inl rfl))) (fun k e => hn k (Or.inr (Or.inr e)))⟩
theorem Fresh.mono {w w' : World} {q q' : Option Nat} (h : Fresh w' q q') (hs : w.heap.size ≤ w'.heap.size) : Fresh w q q' := fun k e => (h k e).imp id (Nat.le_trans hs)
theorem Lg.lt {base : Nat} {w : World} {l p : Nat} {q : Option Nat} {s : St} {n : Nat} (h : Lg base w l p q s n) : ∀ k, lfoot l p q k → base ≤ k ∧ k < w.heap.size := by
  intro k hk
  rcases hk with rfl | rfl | hk
  · exact ⟨h.1, blk_lt' h.2.1⟩
  · exact ⟨h.tape.lt.1, h.tape.lt.2.1⟩
  · exact h.tape.lt.2.2 k hk

theorem wsize_any (base l p : Nat) (q : Option Nat) (s : St) (n : Nat) (w : World) (h : Lg base w l p q s n) :
    Calls Tryz.prog 30 #[.pointer (some ⟨l, 0, none⟩)] w fun e w' => e = .returned (.int .i64 (n : Int)) ∧ w' = w := by
  have c1 : w.cell? ⟨l, 1, none⟩ = some (.int .i64 (n : Int)) := (cell_of_block h.2.1).trans rfl
  clear h
  go_enter Tryz.func30, Tryz.ntmps30
  go_wp2
  go_ret
  exact ⟨rfl, rfl⟩

set_option maxRecDepth 20000 in
set_option maxHeartbeats 1000000 in
theorem wkeep_any (base l p : Nat) (q : Option Nat) (s : St) (n : Nat) (g a : Addr) (ao : Option Addr) (m cap : Nat) (xs : List (List Nat)) (hm : xs.length = m) (w : World) (h : Lg base w l p q s n) (hS : Start w g a) (hb : base ≤ w.heap.size) (ho : s.ops ≤ 4611686018427387904) (hl : s.left ≤ 9223372036854775807)
    (hrow : RowsArg w ao xs) (hfit : Fit xs) (hbl : m ≤ 1000) (c : Nat) (s1 : St) (hap : s.replace (cats xs) = (c, s1)) (n1 : Nat) (hn1 : n1 = if c = 0 then takes xs else n) :
    Calls Tryz.prog 42 #[.pointer (some ⟨l, 0, none⟩), .slice ao m cap] w fun e w' => ∃ q', e = .returned (.int .i64 (c : Int)) ∧ Lg base w' l p q' s1 n1 ∧ Kept base (lfoot l p q) w w' ∧ Fresh w q q' := by
  have HC := hide (framed_any ao m cap xs hm w hrow hfit hbl hS.tab hS.low)
  have hbig : takes xs ≤ 65544000 := by have := takes_few hfit; rw [hm] at this; omega
  have H := hide h
  have HS := hide hS
  have HAP := hide hap
  have HN1 := hide hn1
  clear hrow hfit h hS hm hap hn1
  go_enter Tryz.func42, Tryz.ntmps42
  go_wp2_with fail
  refine (unhide HC).mono ?_
  rintro e w1 ⟨v1, rfl, o1, b1⟩
  obtain ⟨ao1, cap1, rfl, _, _, by1, hc1, hf1⟩ := o1.slice
  have fl := cats_len xs
  rw [fl]
  have l1 := (unhide H).below b1
  have c0 : w1.cell? ⟨l, 0, none⟩ = some (.pointer (some ⟨p, 0, none⟩)) := (cell_of_block l1.2.1).trans rfl
  have hs1 := b1.size
  have hplt := (unhide H).tape.lt.2.1
  have HC2 := hide (replace_any base p q s g ao1 (takes xs) cap1 (cats xs) fl w1 l1.tape ((unhide HS).below b1).goes (Nat.le_trans hb hs1) ho hl (fun w' k => by1.far k (fun a e e2 => by have := (hf1 a e).1; omega)) (by omega))
  have L1 := hide l1
  have B1 := hide b1
  have FL := hide fl
  clear o1 b1 by1 hc1 hf1 l1 fl hplt HC
  go_wp2_with fail
  refine (unhide HC2).mono ?_
  rw [unhide HAP]
  rintro e w2 ⟨q', rfl, t2, k2, f2⟩
  have hne := (unhide L1).ne
  have hl2 : w2.heap[l]? = some (.cells #[.pointer (some ⟨p, 0, none⟩), .int .i64 (n : Int)] 80 (0, 0)) := by rw [k2.2 l (blk_lt' (unhide L1).2.1) (fun e => hne (Or.inl e))]; exact (unhide L1).2.1
  have f1 : w2.frozen? ⟨l, 1, none⟩ = false := free_of_block hl2
  have c1 : w2.cell? ⟨l, 1, none⟩ = some (.int .i64 (n : Int)) := (cell_of_block hl2).trans rfl
  have K2 : Hid (Kept base (lfoot l p q) w w2) := (Kept.of_below (f := lfoot l p q) (unhide B1) hb).trans k2 (fun _ _ x => Or.inr (Or.inl x))
  have F2 := hide (f2.mono hs1)
  have L2 : Hid (Lg base w2 l p q' s1 n) := ⟨(unhide H).1, hl2, t2⟩
  clear t2 k2 f2 hl2 HC2 hne L1
  by_cases hc0 : c = 0
  · have e1 := unhide HN1
    rw [if_pos hc0] at e1
    subst hc0
    subst e1
    go_wp2
    go_ret
    have hne2 := (unhide L2).ne
    have K3 : ∀ u, Kept base (fun k => k = l) w2 (w2.setCell ⟨l, 1, none⟩ u) := fun u => (Kept.refl base (fun k => k = l) w2).setCell (p := ⟨l, 1, none⟩) (unhide L2).1 rfl u
    refine ⟨q', rfl, ⟨(unhide L2).1, ?_, (unhide L2).tape.kept (K3 _) (fun e => hne2 (Or.inl e.symm)) (fun k e e2 => hne2 (Or.inr (e2 ▸ e)))⟩, (unhide K2).trans (K3 _) (fun _ _ e => Or.inl e), unhide F2⟩
    exact setCell_block (unhide L2).2.1
  · have e1 := unhide HN1
    rw [if_neg hc0] at e1
    subst e1
    have hcz : ((c : Int) == 0) = false := by simp; omega
    go_wp2
    go_ret
    exact ⟨q', rfl, unhide L2, unhide K2, unhide F2⟩
end Go.Proofs.YtnagfoclbdlenaaGreatDoor
