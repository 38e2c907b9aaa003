/- Append, Replace: contracts. -/
import Derived.Test.YtbfepfpocgijgaaDoorTOps
namespace Go.Proofs.YtbfepfpocgijgaaDoor
open Go.RowKit

def St.append (s : St) (b : List Nat) : Nat × St :=
  (numOf (s.begin (s.bs.length + b.length)).1, if (s.begin (s.bs.length + b.length)).1 = 0 ∨ (s.begin (s.bs.length + b.length)).1 = 1 then { (s.begin (s.bs.length + b.length)).2 with bs := s.bs ++ b } else (s.begin (s.bs.length + b.length)).2)
theorem u8s_append (a b : List Nat) : u8s (a ++ b) = u8s a ++ u8s b := by simp [u8s]

set_option maxRecDepth 20000 in
set_option maxHeartbeats 1000000 in
theorem append_any (base p : Nat) (q : Option Nat) (s : St) (a : Addr) (ao : Option Addr) (n cap : Nat) (b : List Nat) (hn : b.length = n) (w : World) (h : Tp base w p q s) (hG : GlobT w a) (hgz : 4 ≤ base) (hb : base ≤ w.heap.size) (ho : s.ops ≤ 4611686018427387904) (hl : s.left ≤ 9223372036854775807)
    (hby : ∀ w', Kept base (fun k => k = p) w w' → Bytes w' ao b) (hcap : ao = none → cap = 0) (hbl : n ≤ 100000000000) :
    Calls Tryd.prog 30 #[.pointer (some ⟨p, 0, none⟩), .slice ao n cap] w fun e w' => ∃ q', e = .returned (.int .i64 (((s.append b).1 : Nat) : Int)) ∧ Tp base w' p q' (s.append b).2 ∧ Kept base (foot p q) w w' ∧ Fresh w q q' := by
  obtain ⟨i0, hi, hz0, hz1, hz2⟩ := info_parts Tryd.info5
  have HT := hide h
  obtain ⟨v, hv, hbp, hp, hown, hk⟩ := h
  obtain ⟨aov, capv, rfl, hc, _, hbyv, _⟩ := hown.slice
  have c1 : w.cell? ⟨p, 1, none⟩ = some (.slice aov s.bs.length capv) := (cell_of_block hp).trans rfl
  have hlen : s.bs.length ≤ 1073741824 := by omega
  have HG := hide hG
  have HB := hide (hby w (Kept.refl _ _ _))
  have HBA := hide hby
  have HN := hide hn
  have HCAP := hide hcap
  clear hp hown hk hv hbyv hG hby hn hcap
  obtain ⟨c, s1, hbg⟩ : ∃ c s1, s.begin (s.bs.length + n) = (c, s1) := ⟨_, _, rfl⟩
  have hsm := begin_same s (s.bs.length + n)
  have hft := begin_fits s (s.bs.length + n)
  rw [hbg] at hsm hft
  simp only at hsm hft
  obtain ⟨ebs, erm, esy⟩ := hsm
  have e1 : s.append b = (numOf c, if c = 0 ∨ c = 1 then { s1 with bs := s.bs ++ b } else s1) := by simp only [St.append, unhide HN, hbg]
  have HBG := hide hbg
  have HEB := hide ebs
  have HRM := hide erm
  have HSY := hide esy
  have HFT := hide hft
  clear hbg ebs erm esy hft
  by_cases hc0 : c = 0 ∨ c = 1
  · rw [if_pos hc0] at e1
    rw [e1]
    clear e1
    have hcb : (c == 0 || c == 1) = true := by simpa using hc0
    have hfit : s.bs.length + n ≤ s.room := unhide HFT hc0
    have HFIT := hide hfit
    clear hfit hc0
    go_enter Tryd.func30, Tryd.ntmps30
    go_wp2_with fail
    refine (begin_any base p q s (s.bs.length + n) a w (unhide HT) (unhide HG) hb (by omega) ho hl).mono ?_
    rw [unhide HBG]
    rintro e w1 ⟨ev, rfl, herr, htp, hk1⟩
    simp only at herr htp
    have G1 := hide ((unhide HG).kept hk1.1 hgz)
    have s1' := hk1.size
    obtain ⟨v1, hv1, _, hp1, hown1, hkk⟩ := htp
    obtain ⟨ao1, cap1, rfl, hc1, _, _, _⟩ := hown1.slice
    rw [unhide HEB] at hp1 hown1 hkk hc1 hv1
    have hbr := hkk.2.2
    have d1 : w1.cell? ⟨p, 1, none⟩ = some (.slice ao1 s.bs.length cap1) := (cell_of_block hp1).trans rfl
    have HB1 := hide (unhide HBA w1 hk1)
    have HP1 := hide hp1
    have HK1 := hide hk1
    have HER := hide herr
    have HO1 := hide hown1
    have HV1 := hide hv1
    have HKK := hide hkk
    have hown2 := hown1.1
    clear hp1 hk1 hown1 hv1 hkk herr c1
    go_wp2_with fail
    refine (stands_any a ev c w1 (unhide HER) (unhide G1)).mono ?_
    rw [hcb]
    rintro e w1' ⟨rfl, rfl⟩
    cases ao with
    | none =>
      obtain rfl : b = [] := (unhide HB).none_nil
      obtain rfl : n = 0 := (unhide HN).symm
      obtain rfl := unhide HCAP rfl
      have f1 : w1'.frozen? ⟨p, 1, none⟩ = false := free_of_block (unhide HP1)
      have K2 : Kept base (foot p q) w1' (w1'.setCell ⟨p, 1, none⟩ (.slice ao1 s.bs.length cap1)) := (Kept.refl base (foot p q) w1').setCell (p := ⟨p, 1, none⟩) hbp (Or.inl rfl) _
      have hne := (unhide HO1).ne (unhide HP1) (by decide)
      have hnum := tnumber_any a ev c (w1'.setCell ⟨p, 1, none⟩ (.slice ao1 s.bs.length cap1)) ((unhide HER).kept (f := fun k => k = p) ((Kept.refl base (fun k => k = p) w1').setCell (p := ⟨p, 1, none⟩) hbp rfl _) (fun b' cs fr hb' e => by subst e; rw [unhide HP1] at hb'; cases hb'))
      have HNUM := hide hnum
      have HKa := hide K2
      have HNE := hide hne
      clear hnum K2 hne
      go_wp2_with (at_builtin; refine wpList_append_own_none rfl (.tmp 22) (.tmp 23) 32 rfl base 5 i0 1 Tryd.underlying32 hi _ _ _ rfl hown2 rfl ?_)
      go_wp2_with fail
      refine (unhide HNUM).mono ?_
      rintro e w2 ⟨rfl, rfl⟩
      go_wp2
      go_ret
      refine ⟨q, rfl, ⟨_, unhide HV1, hbp, ?_, ?_, ?_⟩, (unhide HK1).mono (Nat.le_refl _) (fun _ _ x => Or.inl x) |>.trans (unhide HKa) (fun _ _ x => x), Fresh.refl _ _⟩
      · exact setCell_block (unhide HP1)
      · simp only [List.append_nil]
        refine ⟨own_kept (unhide HO1).1 (fun k hk => Below.heap_setCell _ _ _ _ (unhide HNE k hk)), (unhide HO1).2⟩
      · simp only [List.append_nil]
        exact unhide HKK
    | some x =>
      have hnw := (unhide HB1).news
      have hnl : (u8s b).length = n * 1 := by simp [u8s, unhide HN]
      go_wp2_with (at_builtin; refine wpList_append_own_at _ rfl (.tmp 22) (.tmp 23) 32 rfl base 5 i0 (.int .u8 0) 1 1 Tryd.underlying32 hi hz0 hz1 hz2 rfl (by decide) _ _ _ rfl hown2 x n cap (u8s b) rfl hnl hnw (u8s_one b) (by unfold maxLen; omega) (by omega) (Nat.le_trans hb s1') ?_)
      intro v2 w2 own2 g2 _ hat
      have hq1 : q = Value.ownBlock (.slice ao1 s.bs.length cap1) := (unhide HV1).symm
      have k2 : Kept base (fun k => q = some k) w1' w2 := by
        refine ⟨(Below.refl _ _).grown g2 (Nat.le_trans hb s1') (fun k hk => (hown2.lt k hk).1), fun k hk hn => ?_⟩
        obtain ⟨_, _, _, _, hold⟩ := g2
        exact hold k hk (fun e => hn (by rw [hq1]; exact e.symm))
      have hpq : ¬ q = some p := fun e => (unhide HO1).ne (unhide HP1) (by decide) p (hq1.symm.trans e) rfl
      have hp2 := (k2.2 p (blk_lt' (unhide HP1)) hpq).trans (unhide HP1)
      obtain ⟨ao2, cap2, rfl⟩ : ∃ ao2 cap2, v2 = .slice ao2 (s.bs.length + n) cap2 := by
        rcases own2.2 with ⟨rfl, h0⟩ | ⟨gb, cap2, cur, rfl, _⟩
        · exact ⟨none, 0, by rw [h0]⟩
        · exact ⟨_, cap2, rfl⟩
      have d0 : w2.cell? ⟨p, 1, none⟩ = some (.slice ao1 s.bs.length cap1) := (cell_of_block hp2).trans rfl
      have f0 : w2.frozen? ⟨p, 1, none⟩ = false := free_of_block hp2
      have o2 : Own base w2 (.slice ao2 (s.bs.length + n) cap2) (s.bs ++ b) := by
        refine ⟨?_, ?_⟩
        · rw [List.length_append, unhide HN, u8s_append]; exact own2
        · intro y hy
          rcases List.mem_append.1 hy with h | h
          · exact (unhide HO1).2 y h
          · exact (unhide HB).1 y h
      have er2 : ErrT w2 a ev c := (unhide HER).kept k2 (fun b' cs fr hb' e => by
        obtain ⟨_, cur, fr', hc'⟩ := own_tag hown2 b' (hq1.symm.trans e)
        rw [hb'] at hc'; cases hc')
      have K3 : Kept base (fun k => k = p) w2 (w2.setCell ⟨p, 1, none⟩ (.slice ao2 (s.bs.length + n) cap2)) := (Kept.refl base (fun k => k = p) w2).setCell (p := ⟨p, 1, none⟩) hbp rfl _
      have hnum := tnumber_any a ev c _ (er2.kept K3 (fun b' cs fr hb' e => by subst e; rw [hp2] at hb'; cases hb'))
      have hne := o2.ne hp2 (by decide)
      have o3 := o2.kept K3 hne
      have HNUM := hide hnum
      have HP2 := hide hp2
      have HO3 := hide o3
      have HKb := hide k2
      have HKc := hide K3
      have HAT := hide hat
      have HQ1 := hide hq1
      clear hnum hp2 o2 o3 k2 K3 er2 hne hpq own2 g2 hnw hnl d1 hat hq1 hown2
      go_wp2_with fail
      refine (unhide HNUM).mono ?_
      rintro e w3 ⟨rfl, rfl⟩
      go_wp2
      go_ret
      refine ⟨_, rfl, ⟨_, rfl, hbp, ?_, unhide HO3, ?_⟩, ?_, ?_⟩
      · exact setCell_block (unhide HP2)
      · have hkk := unhide HKK
        refine ⟨by simp only [List.length_append]; omega, by simp only [List.length_append, unhide HN]; rw [unhide HRM]; exact unhide HFIT, hkk.2.2⟩
      · exact ((unhide HK1).mono (g := foot p q) (Nat.le_refl _) (fun _ _ x => Or.inl x)).trans (((unhide HKb).mono (g := foot p q) (Nat.le_refl _) (fun _ _ x => Or.inr x)).trans (unhide HKc) (fun _ _ x => Or.inl x)) (fun _ _ x => x)
      · intro k hk
        rcases unhide HAT with h | h
        · left
          rw [unhide HQ1, ← h]; exact hk
        · right
          rw [h] at hk
          cases hk
          exact s1'
  · rw [if_neg hc0] at e1
    rw [e1]
    clear e1
    have hcb : (c == 0 || c == 1) = false := by simpa using hc0
    clear hc0
    go_enter Tryd.func30, Tryd.ntmps30
    go_wp2_with fail
    refine (begin_any base p q s (s.bs.length + n) a w (unhide HT) (unhide HG) hb (by omega) ho hl).mono ?_
    rw [unhide HBG]
    rintro e w1 ⟨ev, rfl, herr, htp, hk1⟩
    simp only at herr htp
    have G1 := hide ((unhide HG).kept hk1.1 hgz)
    have HT1 := hide htp
    have HK1 := hide hk1
    have HER := hide herr
    clear hk1 herr htp c1
    go_wp2_with fail
    refine (stands_any a ev c w1 (unhide HER) (unhide G1)).mono ?_
    rw [hcb]
    rintro e w1' ⟨rfl, rfl⟩
    go_wp2_with fail
    refine (tnumber_any a ev c _ (unhide HER)).mono ?_
    rintro e w2 ⟨rfl, rfl⟩
    go_wp2
    go_ret
    exact ⟨q, rfl, unhide HT1, (unhide HK1).mono (Nat.le_refl _) (fun _ _ x => Or.inl x), Fresh.refl _ _⟩
end Go.Proofs.YtbfepfpocgijgaaDoor
