/- Put into cells that are all empty: what is kept lies in memory that the call has made. -/
import Derived.Test.YtaggbpfpheffpaaGreatDoorCNice
namespace Go.Proofs.YtaggbpfpheffpaaGreatDoor
open Go.RowKit Go.Maps

theorem Has.none {base base' : Nat} {w : World} {D : DataW Value} {x : Int} {bs : List Nat} (h : Has base w D x bs) (h0 : bs = []) : Has base' w D x bs := by
  rcases h with h | h
  · exact Or.inl h
  · exact absurd h0 h.1

set_option maxRecDepth 20000 in
set_option maxHeartbeats 2000000 in
theorem put_new {base cp l b c p : Nat} {q : Option Nat} {s : St} {n : Nat} {f : Int → List Nat} (g a : Addr) (ao : Option Addr) (m cap : Nat) (lst : List (Int × List Nat)) (hm : lst.length = m) (hm8 : m ≤ 1000) (w : World) (hC : Cs base w cp l b f c) (hc : c ≤ 100000) (hL : Lg base w l p q s n) (hS : Start w g a) (hb : base ≤ w.heap.size) (ho : s.ops ≤ 4611686018427387904) (hl : s.left ≤ 9223372036854775807)
    (hat : CAt w ao lst) (hwf : ∀ c ∈ lst, wf64 c.1) (hlen : ∀ x, (f x).length ≤ 12000) (h0 : refuseOf (fun _ => false) lst = 0) (hf0 : ∀ x, f x = []) (s1 : St) (hrep : s.replace (cats (rows (setF f lst))) = (0, s1)) (n1 : Nat) (hn1 : n1 = if 0 = 0 then takes (rows (setF f lst)) else n) :
    Calls Tryz.prog 29 #[.pointer (some ⟨cp, 0, none⟩), .slice ao m cap] w fun e w' => ∃ ev, e = .returned ev ∧ ErrC w' ev 0 ∧ ∃ q' b', Cs base w' cp l b' (setF f lst) (c + m) ∧ Lg base w' l p q' s1 n1 ∧ Kept base (fun j => (j = l ∨ j = p) ∨ j = cp) w w' ∧ Fresh w q q' ∧ Hv w.heap.size w' b' (setF f lst) (c + m) := by
  have hval := refuse_zero h0
  obtain ⟨F, hF⟩ : ∃ F, setF f lst = F := ⟨_, rfl⟩
  have hFl : ∀ x, (F x).length ≤ 12000 := by rw [← hF]; exact setF_len hlen (fun c hc => (hval c hc).2)
  have RE := hide (refuse_any ao m cap lst hm hm8 w hat hwf)
  rw [h0] at RE
  rw [hF] at hrep hn1 ⊢
  have HC := hide hC
  have HL := hide hL
  have HS := hide hS
  have HAT := hide hat
  have HM := hide hm
  have HFF := hide hF
  have HFL := hide hFl
  have HVAL : Hid (∀ c ∈ lst, (0 ≤ c.1 ∧ c.1 < 8) ∧ c.2.length ≤ 1000000) := fun c hc => ⟨(hval c hc).1, Nat.le_trans (hval c hc).2 (by decide)⟩
  have HREP := hide hrep
  have HN1 := hide hn1
  have HF0 := hide hf0
  clear hC hL hS hat hm hF hFl hval hrep hn1 hwf hlen h0 hf0
  go_enter Tryz.func29, Tryz.ntmps29
  go_wp2_with fail
  refine (unhide RE).mono ?_
  rintro e w1 ⟨ev, rfl, he, b1⟩
  obtain rfl : ev = .nilIface := by
    rcases he with ⟨_, e⟩ | ⟨e, _⟩ | ⟨e, _⟩ | ⟨e, _⟩ | ⟨e, _⟩
    · exact e
    all_goals cases e
  have sz1 := b1.size
  have C1 := (unhide HC).below b1
  have x1 := C1.have
  obtain ⟨hb0, D, hoD, h2, h3⟩ := C1.2.2
  have CM := hide (clone_map asIs b c D w1 hoD)
  have H23 := hide (And.intro h2 h3)
  have B1 := hide b1
  clear b1 he hoD h2 h3 C1 hb0 RE
  go_wp2_with fail
  refine (unhide CM).mono ?_
  rintro e w2 ⟨rfl, ho2, _, b2⟩
  have sz2 := b2.size
  have hv2 : Hv w.heap.size w2 w1.heap.size f c := ⟨sz1, D, ho2, (unhide H23).1, fun x => (((unhide H23).2 x).kept fun v hv => hv.below b2).none (unhide HF0 x)⟩
  have B2 := hide ((unhide B1).trans (b2.mono sz1))
  have SE := hide (set_any ao m cap lst (unhide HM) hm8 w2 hv2 (by omega) (by omega) ((unhide HAT).below (unhide B2)) (unhide HVAL))
  rw [unhide HFF] at SE
  clear ho2 b2 hv2 CM H23 B1
  go_wp2_with fail
  refine (unhide SE).mono ?_
  rintro e w3 ⟨rfl, hv3, k3⟩
  have sz3 := k3.size
  have B3 := hide ((unhide B2).trans (k3.low sz1 (by omega)))
  have C3 := (unhide HC).below (unhide B3)
  have x30 := C3.log
  have HSX : Hid (∀ Y : World, Below w.heap.size w Y → Y.cell? ⟨cp, 0, none⟩ = some (.pointer (some ⟨l, 0, none⟩))) := fun Y hY => ((unhide HC).below hY).log
  have LI := hide (listed_any w3.drew (hv3.below (drew_below w3)) (by omega) (fun x => Nat.le_trans (unhide HFL x) (by decide)))
  have HV3 := hide hv3
  have FT := hide (fit_rows (fun x => hv3.bytes x) (unhide HFL))
  obtain ⟨k, hk⟩ : ∃ k, (cellsOf F).length = k := ⟨_, rfl⟩
  have hk8 : k ≤ 8 := by rw [← hk]; exact cells_len F
  have HKK := hide hk
  have hkr : (rows F).length = k := by rw [rows, recs_len]; exact hk
  have HKR := hide hkr
  have HCM : Hid (∀ c ∈ cellsOf F, (0 ≤ c.1 ∧ c.1 < 8) ∧ c.2.length ≤ 1000000) := cells_mem (fun x => Nat.le_trans (unhide HFL x) (by decide))
  clear hv3 k3 SE B2 x1 C3 hk hkr
  go_wp2_with fail
  go_region_held_law (fun Y => Y.cell? ⟨cp, 0, none⟩ = some (.pointer (some ⟨l, 0, none⟩)))
    (first | exact (unhide HX6) | exact (unhide HSX) _ (unhide B5) | exact (unhide HSX) _ (unhide B4) | exact (unhide HSX) _ (unhide B3).drew)
    (first
      | (go_at_call 34
         refine (unhide LI).mono ?_
         rintro e w4 ⟨v4, rfl, r4, b4⟩
         obtain ⟨ao4, cap4, rfl, _, _, _, at4⟩ := r4.at
         rw [unhide HKK]
         have sz4 := b4.size
         have RC := hide (records_any ao4 k cap4 (cellsOf F) (unhide HKK) (by omega) w4 at4 (unhide HCM))
         have B4 := hide ((unhide B3).drew.trans (b4.mono (by have := (unhide B3).size; exact this)))
         have HV4 := hide (((unhide HV3).below (drew_below w3)).below b4)
         clear r4 at4 b4 LI)
      | (go_at_call 43
         refine (unhide RC).mono ?_
         rintro e w5 ⟨ao5, cap5, rfl, ra5, _, b5⟩
         have B5 := hide ((unhide B4).trans (b5.mono (unhide B4).size))
         have HV5 := hide ((unhide HV4).below b5)
         have KE := hide (ckeep_any base l p q s n g a ao5 k cap5 (rows F) (unhide HKR) w5 ((unhide HL).below (unhide B5)) ((unhide HS).below (unhide B5)) (Nat.le_trans hb (unhide B5).size) ho hl ra5 (unhide FT) (by omega) 0 s1 (unhide HREP) n1 (unhide HN1))
         clear ra5 b5 RC)
      | (go_at_call 42
         refine (unhide KE).mono ?_
         rintro e w6 ⟨q', rfl, l6, k6, f6⟩
         have l5 := (unhide HL).below (unhide B5)
         have c5 := (unhide HC).below (unhide B5)
         have hfar := l5.far c5.2.1
         have e6 := (k6.2 cp (blk_lt' c5.2.1) (fun e => hfar (e.imp id Or.inl))).trans c5.2.1
         have HX6 : Hid (w6.cell? ⟨cp, 0, none⟩ = some (.pointer (some ⟨l, 0, none⟩))) := (cell_of_block e6).trans rfl
         have C6 : Hid (Cs base w6 cp l b f c) := ⟨c5.1, e6, c5.2.2.kept k6 l5.tags⟩
         have HV6 := hide ((unhide HV5).kept k6 l5.tags)
         have E6 := hide e6
         have KK6 : Hid (Kept base (fun j => (j = l ∨ j = p) ∨ j = cp) w w6) := (Kept.of_below (f := fun j => (j = l ∨ j = p) ∨ j = cp) (unhide B5) hb).trans k6 (fun _ _ x => Or.inl x)
         have FF6 := hide (f6.mono (unhide B5).size)
         have L6 := hide l6
         clear l6 k6 f6 KE l5 c5 hfar e6))
  have hcp : base ≤ cp := (unhide HC).1
  have hf6 : w6.frozen? ⟨cp, 1, none⟩ = false := free_of_block (unhide E6)
  have c61 : w6.cell? ⟨cp, 1, none⟩ = some (.map (some b)) := (cell_of_block (unhide E6)).trans rfl
  obtain ⟨W7, hW7⟩ : ∃ W7, w6.setCell ⟨cp, 1, none⟩ (.map (some w1.heap.size)) = W7 := ⟨_, rfl⟩
  have k7 : Kept base (fun k => k = cp) w6 W7 := by rw [← hW7]; exact (Kept.refl base (fun k => k = cp) w6).setCell (p := ⟨cp, 1, none⟩) hcp rfl _
  have e7 : W7.heap[cp]? = some (.cells #[.pointer (some ⟨l, 0, none⟩), .map (some w1.heap.size)] 68 (0, 0)) := by rw [← hW7]; exact setCell_block (unhide E6)
  have hfar := (unhide L6).far (unhide E6)
  have FIN : Hid (Cs base W7 cp l w1.heap.size F (c + m) ∧ Lg base W7 l p q' s1 n1 ∧ Kept base (fun j => (j = l ∨ j = p) ∨ j = cp) w W7 ∧ Fresh w q q' ∧ Hv w.heap.size W7 w1.heap.size F (c + m)) := by
    have hh := (unhide HV6).kept k7 (fun k e => e ▸ ⟨_, _, _, unhide E6, by decide⟩)
    refine ⟨⟨hcp, e7, hh.rebase hb⟩, (unhide L6).kept k7 (fun k hk e => hfar (by rw [← e]; exact hk)), (unhide KK6).trans k7 (fun _ _ x => Or.inr x), unhide FF6, hh⟩
  have HW7 := hide hW7
  clear k7 e7 hfar hW7 HV6 L6 KK6 FF6 C6 HV3 HV4 HV5 B3 B4 B5
  go_wp2
  go_ret
  rw [unhide HW7]
  exact ⟨_, rfl, Or.inl ⟨rfl, rfl⟩, q', _, unhide FIN⟩
end Go.Proofs.YtaggbpfpheffpaaGreatDoor
