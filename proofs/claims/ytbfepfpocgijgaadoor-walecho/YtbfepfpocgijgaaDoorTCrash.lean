/- Replace, Crash: contracts. -/
import Derived.Test.YtbfepfpocgijgaaDoorTApp
import Derived.Deep.QuietTactic
import Derived.Deep.RegionWith
namespace Go.Proofs.YtbfepfpocgijgaaDoor
open Go.RowKit

theorem Own.mono {base base' : Nat} {w : World} {v : Value} {bs : List Nat} (h : Own base w v bs) (hb : base' ≤ base) : Own base' w v bs := by
  refine ⟨⟨h.1.1, ?_⟩, h.2⟩
  rcases h.1.2 with h0 | ⟨g, cap, cur, e, hg, r⟩
  · exact Or.inl h0
  · exact Or.inr ⟨g, cap, cur, e, Nat.le_trans hb hg, r⟩

def St.replace (s : St) (b : List Nat) : Nat × St :=
  (numOf (s.begin b.length).1, if (s.begin b.length).1 = 0 then { (s.begin b.length).2 with bs := b, syn := b.length } else (s.begin b.length).2)

set_option maxRecDepth 20000 in
set_option maxHeartbeats 1000000 in
theorem replace_any (base p : Nat) (q : Option Nat) (s : St) (a : Addr) (ao : Option Addr) (n cap : Nat) (b : List Nat) (hn : b.length = n) (w : World) (h : Tp base w p q s) (hG : GlobT w a) (hb : base ≤ w.heap.size) (ho : s.ops ≤ 4611686018427387904) (hl : s.left ≤ 9223372036854775807)
    (hby : ∀ w', Kept base (fun k => k = p) w w' → Bytes w' ao b) (hbl : n ≤ 100000000000) :
    Calls Tryd.prog 32 #[.pointer (some ⟨p, 0, none⟩), .slice ao n cap] w fun e w' => ∃ q', e = .returned (.int .i64 (((s.replace b).1 : Nat) : Int)) ∧ Tp base w' p q' (s.replace b).2 ∧ Kept base (fun k => k = p) w w' ∧ Fresh w q q' := by
  have HT := hide h
  have hbp := h.lt.1
  have HG := hide hG
  have HB := hide (hby w (Kept.refl _ _ _))
  have HBA := hide hby
  have HN := hide hn
  clear hG hby hn h
  obtain ⟨c, s1, hbg⟩ : ∃ c s1, s.begin n = (c, s1) := ⟨_, _, rfl⟩
  have hsm := begin_same s n
  have hft := begin_fits s n
  rw [hbg] at hsm hft
  simp only at hsm hft
  obtain ⟨ebs, erm, esy⟩ := hsm
  have e1 : s.replace b = (numOf c, if c = 0 then { s1 with bs := b, syn := b.length } else s1) := by simp only [St.replace, unhide HN, hbg]
  have HBG := hide hbg
  have HRM := hide erm
  have HFT := hide hft
  clear hbg ebs erm esy hft
  by_cases hc0 : c = 0
  · rw [if_pos hc0] at e1
    rw [e1]
    clear e1
    subst hc0
    have hfit : n ≤ s.room := unhide HFT (Or.inl rfl)
    have HFIT := hide hfit
    clear hfit
    go_enter Tryd.func32, Tryd.ntmps32
    go_wp2_with fail
    refine (begin_any base p q s n a w (unhide HT) (unhide HG) hb (by omega) ho hl).mono ?_
    rw [unhide HBG]
    rintro e w1 ⟨ev, rfl, herr, htp, hk1⟩
    simp only at herr htp
    obtain rfl : ev = .nilIface := by
      rcases herr with ⟨_, rfl⟩ | ⟨h0, _⟩ | ⟨h0, _⟩ | ⟨h0, _⟩
      · rfl
      all_goals cases h0
    have s1' := hk1.size
    have HB1 := hide (unhide HBA w1 hk1)
    have HT1 := hide htp
    have HK1 := hide hk1
    clear hk1 htp herr
    go_wp2_with fail
    refine (copied_any ao n cap b (unhide HN) w1 (unhide HB1) hbl).mono ?_
    rintro e w2 ⟨v2, rfl, o2, b2⟩
    have htp2 := (unhide HT1).below b2
    obtain ⟨v1, hv1, _, hp2, hown1, hkk⟩ := htp2
    obtain ⟨ao2, cap2, rfl, hc2, _, _, _⟩ := o2.slice
    rw [unhide HN] at o2 hc2
    have d1 : w2.cell? ⟨p, 1, none⟩ = some v1 := (cell_of_block hp2).trans rfl
    have d2 : w2.cell? ⟨p, 2, none⟩ = some (.int .i64 (s1.syn : Int)) := (cell_of_block hp2).trans rfl
    have f1 : w2.frozen? ⟨p, 1, none⟩ = false := free_of_block hp2
    have f2 : w2.frozen? ⟨p, 2, none⟩ = false := free_of_block hp2
    have hlt : w.heap.size ≤ w1.heap.size := s1'
    have K2 : ∀ u u', Kept base (fun k => k = p) w2 ((w2.setCell ⟨p, 1, none⟩ u).setCell ⟨p, 2, none⟩ u') := fun u u' => ((Kept.refl base (fun k => k = p) w2).setCell (p := ⟨p, 1, none⟩) hbp rfl u).setCell (p := ⟨p, 2, none⟩) hbp rfl u'
    have hne := o2.ne hp2 (by decide)
    have HP2 := hide hp2
    have HO2 := hide o2
    have HK2 := hide K2
    have HB2 := hide b2
    have HNE := hide hne
    have HKK := hide hkk
    clear hp2 o2 K2 b2 hne hown1 hv1 hkk
    go_wp2_with fail
    refine (tnumber_any a .nilIface 0 _ (Or.inl ⟨rfl, rfl⟩)).mono ?_
    rintro e w3 ⟨rfl, rfl⟩
    go_wp2
    go_ret
    refine ⟨_, rfl, ⟨_, rfl, hbp, ?_, ((unhide HO2).mono (Nat.le_trans hb s1')).kept (unhide HK2 _ _) (unhide HNE), ?_⟩, ?_, ?_⟩
    · simp only
      rw [unhide HN]
      exact setCell_block (setCell_block (unhide HP2))
    · refine ⟨Nat.le_refl _, ?_, (unhide HKK).2.2⟩
      simp only
      rw [unhide HN, unhide HRM]; exact unhide HFIT
    · exact ((unhide HK1).trans (g := fun k => k = p) (Kept.of_below (unhide HB2) (Nat.le_trans hb s1')) (fun _ _ x => x)).trans (unhide HK2 _ _) (fun _ _ x => x)
    · intro k hk
      exact Or.inr (Nat.le_trans s1' ((unhide HO2).1.lt k hk).1)
  · rw [if_neg hc0] at e1
    rw [e1]
    clear e1
    go_enter Tryd.func32, Tryd.ntmps32
    go_wp2_with fail
    refine (begin_any base p q s n a w (unhide HT) (unhide HG) hb (by omega) ho hl).mono ?_
    rw [unhide HBG]
    rintro e w1 ⟨ev, rfl, herr, htp, hk1⟩
    simp only at herr htp
    have HER := hide herr
    obtain ⟨T, x, rfl⟩ : ∃ T x, ev = .iface T x := by
      rcases herr with ⟨h0, _⟩ | ⟨_, rfl⟩ | ⟨_, rfl⟩ | ⟨_, b, rfl, _⟩
      · exact absurd h0 hc0
      all_goals exact ⟨_, _, rfl⟩
    have HT1 := hide htp
    have HK1 := hide hk1
    clear hk1 htp herr hc0
    go_wp2_with fail
    refine (tnumber_any a _ c w1 (unhide HER)).mono ?_
    rintro e w2 ⟨rfl, rfl⟩
    go_wp2
    go_ret
    exact ⟨q, rfl, unhide HT1, unhide HK1, Fresh.refl _ _⟩

theorem picked_nat (n m : Int) (k : Nat) (hk : n % m = k) (w : World) (h1 : 0 < m) (h2 : m ≤ 1000000000000) :
    Calls Tryd.prog 34 #[.int .i64 n, .int .i64 m] w fun ev w' => ev = .returned (.int .i64 (k : Int)) ∧ w' = w := by
  rw [← hk]; exact picked_any n m w h1 h2

def St.kept (s : St) (pick : Int) : Nat := (pick % ((s.bs.length : Int) - s.syn + 1)).toNat
def St.crash (s : St) (pick : Int) : St := { s with bs := s.bs.take (s.syn + s.kept pick), syn := s.syn + s.kept pick, left := 0, dead := false }
theorem kept_spec (s : St) (pick : Int) (h : s.syn ≤ s.bs.length) : pick % ((s.bs.length : Int) - s.syn + 1) = (s.kept pick : Int) ∧ s.syn + s.kept pick ≤ s.bs.length := by
  have h0 : (0 : Int) < (s.bs.length : Int) - s.syn + 1 := by omega
  have h1 := Int.emod_nonneg pick (show ((s.bs.length : Int) - s.syn + 1) ≠ 0 by omega)
  have h2 := Int.emod_lt_of_pos pick h0
  unfold St.kept
  omega
theorem own_take {base : Nat} {w : World} {ao : Option Addr} {cap : Nat} {bs : List Nat} (h : Own base w (.slice ao bs.length cap) bs) (k : Nat) (hk : k ≤ bs.length) : Own base w (.slice ao k cap) (bs.take k) := by
  have hl : (bs.take k).length = k := by simp; omega
  refine ⟨⟨by simp [u8s], ?_⟩, fun x hx => h.2 x (List.mem_of_mem_take hx)⟩
  rcases h.1.2 with ⟨e, h0⟩ | ⟨g, cap', cur, e, hg, hh, hc, hm, hs, ht⟩
  · left
    obtain rfl : k = 0 := by omega
    simp only [Value.slice.injEq] at e
    obtain ⟨rfl, _, rfl⟩ := e
    exact ⟨rfl, by simp⟩
  · right
    simp only [Value.slice.injEq] at e
    obtain ⟨rfl, _, rfl⟩ := e
    refine ⟨g, cap, cur, by rw [hl], hg, hh, by omega, hm, hs, ?_⟩
    rw [Nat.mul_one] at ht ⊢
    rw [hl, show u8s (bs.take k) = (u8s bs).take k from List.map_take, ← ht, List.take_take, Nat.min_eq_left (by omega)]

set_option maxRecDepth 20000 in
set_option maxHeartbeats 1000000 in
theorem crash_any (base p : Nat) (q : Option Nat) (s : St) (pick : Int) (w : World) (h : Tp base w p q s) :
    Calls Tryd.prog 23 #[.pointer (some ⟨p, 0, none⟩), .int .i64 pick] w fun e w' => e = .returned (.int .i64 ((s.kept pick : Nat) : Int)) ∧ Tp base w' p q (s.crash pick) ∧ Kept base (fun k => k = p) w w' := by
  obtain ⟨v, hv, hbp, hp, hown, hk⟩ := h
  obtain ⟨ao, cap, rfl, hc, hcm, _, hcap, _⟩ := hown.slice
  have hks := kept_spec s pick hk.1
  obtain ⟨k, ek⟩ : ∃ k, s.kept pick = k := ⟨_, rfl⟩
  have ec : s.crash pick = { s with bs := s.bs.take (s.syn + k), syn := s.syn + k, left := 0, dead := false } := by simp only [St.crash, ek]
  rw [ec, ek]
  rw [ek] at hks
  obtain ⟨hk1, hk2⟩ := hks
  have c1 : w.cell? ⟨p, 1, none⟩ = some (.slice ao s.bs.length cap) := (cell_of_block hp).trans rfl
  have c2 : w.cell? ⟨p, 2, none⟩ = some (.int .i64 (s.syn : Int)) := (cell_of_block hp).trans rfl
  have c4 : w.cell? ⟨p, 4, none⟩ = some (.int .i64 s.left) := (cell_of_block hp).trans rfl
  have c5 : w.cell? ⟨p, 5, none⟩ = some (.bool s.dead) := (cell_of_block hp).trans rfl
  have f1 : w.frozen? ⟨p, 1, none⟩ = false := free_of_block hp
  have f2 : w.frozen? ⟨p, 2, none⟩ = false := free_of_block hp
  have f4 : w.frozen? ⟨p, 4, none⟩ = false := free_of_block hp
  have f5 : w.frozen? ⟨p, 5, none⟩ = false := free_of_block hp
  have hsyn : s.syn ≤ s.bs.length := hk.1
  have hlen : s.bs.length ≤ 1073741824 := by omega
  have hne := hown.ne hp (by decide)
  have HP := hide hp
  have HO := hide hown
  have HK := hide hk
  have HV := hide hv
  have HN := hide hne
  have HK1 := hide hk1
  have HCAP := hide hcap
  clear hp hown hk hv hne ec ek hk1 hcap
  have x1 : IntKind.i64.wrap ((s.bs.length : Int) - (s.syn : Int)) = (s.bs.length : Int) - (s.syn : Int) := IntWalk.i64_in _ (by omega)
  have x2 : IntKind.i64.wrap ((s.bs.length : Int) - (s.syn : Int) + 1) = (s.bs.length : Int) - (s.syn : Int) + 1 := IntWalk.i64_in _ (by omega)
  go_enter Tryd.func23, Tryd.ntmps23
  go_wp2
  go_quiet (first | (go_at_call 34; exact Calls.quiet_of_same (picked_nat pick _ k (unhide HK1) _ (by omega) (by omega))))
  clear x1 x2
  go_wp2
  go_region
  go_wp2
  go_ret
  have K0 : Kept base (fun k => k = p) w (w.drewN nq) := ⟨⟨rfl, rfl, rfl, Nat.le_refl _, fun _ _ => rfl⟩, fun _ _ _ => rfl⟩
  have K4 := fun u2 u1 u5 u4 => ((((K0.setCell (p := ⟨p, 2, none⟩) hbp rfl u2).setCell (p := ⟨p, 1, none⟩) hbp rfl u1).setCell (p := ⟨p, 5, none⟩) hbp rfl u5).setCell (p := ⟨p, 4, none⟩) hbp rfl u4).drew
  have hp0 : (w.drewN nq).heap[p]? = _ := unhide HP
  have o1 := own_take (unhide HO) (s.syn + k) hk2
  refine ⟨rfl, ⟨.slice ao (s.syn + k) cap, ?_, hbp, setCell_block (setCell_block (setCell_block (setCell_block hp0))), o1.kept (K4 _ _ _ _) ?_, ?_⟩, K4 _ _ _ _⟩
  · rw [← unhide HV]; cases ao <;> rfl
  · intro j hj
    refine unhide HN j ?_
    rw [← hj]; cases ao <;> rfl
  · refine ⟨by simp only [List.length_take]; omega, ?_, (unhide HK).2.2⟩
    have := (unhide HK).2.1
    simp only [List.length_take]; omega
end Go.Proofs.YtbfepfpocgijgaaDoor
