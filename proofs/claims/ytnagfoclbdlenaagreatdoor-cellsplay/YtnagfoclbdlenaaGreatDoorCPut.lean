/- cells: put, Put: contracts. -/
import Derived.Test.YtnagfoclbdlenaaGreatDoorCFace
import Derived.Test.YtnagfoclbdlenaaGreatDoorCRef
import Derived.Test.YtnagfoclbdlenaaGreatDoorCKeep
namespace Go.Proofs.YtnagfoclbdlenaaGreatDoor
open Go.RowKit Go.Maps

theorem refuse_zero {s : Int → Bool} {l : List (Int × List Nat)} (h : refuseOf s l = 0) : ∀ c ∈ l, (0 ≤ c.1 ∧ c.1 < 8) ∧ c.2.length ≤ 12000 := by
  induction l generalizing s with
  | nil => simp
  | cons c r ih =>
    have h1 : oneOf s c.1 c.2.length = 0 := by
      by_cases e : oneOf s c.1 c.2.length = 0
      · exact e
      · rw [refuseOf, if_neg e] at h; exact absurd h e
    rw [refuseOf, if_pos h1] at h
    intro d hd
    rcases List.mem_cons.1 hd with rfl | hd
    · unfold oneOf at h1
      by_cases e1 : 0 ≤ d.1 ∧ d.1 < 8
      · rw [if_neg (fun k => k e1)] at h1
        refine ⟨e1, ?_⟩
        split at h1
        · omega
        · split at h1 <;> omega
      · rw [if_pos e1] at h1; omega
    · exact ih h d hd
theorem setF_len {M : Nat} {l : List (Int × List Nat)} {f : Int → List Nat} (hf : ∀ x, (f x).length ≤ M) (hl : ∀ c ∈ l, c.2.length ≤ M) : ∀ x, (setF f l x).length ≤ M := by
  induction l generalizing f with
  | nil => exact hf
  | cons c r ih =>
    have e : setF f (c :: r) = setF (upF f c.1 c.2) r := rfl
    rw [e]
    refine ih (fun x => ?_) (fun d hd => hl d (List.mem_cons_of_mem _ hd))
    unfold upF
    split
    · exact hl c (List.mem_cons_self ..)
    · exact hf x
theorem Hv.bytes {base : Nat} {w : World} {b : Nat} {f : Int → List Nat} {c : Nat} (h : Hv base w b f c) (x : Int) : ∀ y ∈ f x, y < 256 := by
  obtain ⟨_, D, _, _, h3⟩ := h
  rcases h3 x with ⟨e, _⟩ | ⟨_, _, v, _, hv⟩
  · rw [e]; simp
  · exact hv.2
theorem fit_rows {f : Int → List Nat} (hb : ∀ x, ∀ y ∈ f x, y < 256) (hl : ∀ x, (f x).length ≤ 12000) : Fit (rows f) := fun r hr => by
  obtain ⟨c, hc, rfl⟩ := List.mem_map.1 hr
  obtain ⟨n, hn, rfl⟩ := List.mem_map.1 hc
  have h8 := (keys_mem.1 hn).1
  refine ⟨fun y hy => ?_, ?_⟩
  · rcases List.mem_cons.1 hy with rfl | hy
    · simp only; omega
    · exact hb n y hy
  · have := hl n
    simp only [recOf, List.length_cons]; omega
theorem Kept.low {w w' : World} {base b N : Nat} (h : Kept base (fun k => k = b) w w') (hb : N ≤ b) (hN : N ≤ w.heap.size) : Below N w w' := by
  obtain ⟨a1, a2, a3, a4, a5⟩ := h.1
  exact ⟨a1, a2, a3, a4, fun j hj => h.2 j (by omega) (by omega)⟩
/-- a map outlives what turns other blocks, none of them bytes. -/
theorem Hv.kept {base bb : Nat} {F : Nat → Prop} {w w' : World} {b : Nat} {f : Int → List Nat} {c : Nat} (h : Hv base w b f c) (hk : Kept bb F w w') (hF : ∀ k, F k → ∃ xs t fr, w.heap[k]? = some (.cells xs t fr) ∧ t ≠ 5) : Hv base w' b f c := by
  obtain ⟨h1, D, ho, h2, h3⟩ := h
  have hl := ho.lt
  obtain ⟨es, cl, e1, e2⟩ := ho
  refine ⟨h1, D, ⟨es, cl, (hk.2 b hl (fun hf => ?_)).trans e1, e2⟩, h2, fun x => (h3 x).kept fun v hv => ⟨hk.own hv.1 fun k e hf => ?_, hv.2⟩⟩
  · obtain ⟨xs, t, fr, e, _⟩ := hF b hf
    rw [e1] at e; cases e
  · obtain ⟨xs, t, fr, e3, ht⟩ := hF k hf
    obtain ⟨_, cur, fr', e4⟩ := own_tag hv.1 k e
    rw [e3] at e4
    cases e4
    exact ht rfl
theorem rep_num {s s1 : St} {b : List Nat} {R : Nat} (h : s.replace b = (R, s1)) : R = 0 ∨ R = 13 ∨ R = 14 := by
  have e : R = numOf (s.begin b.length).1 := by rw [← (Prod.mk.inj h).1]
  rw [e]; unfold numOf
  split
  · exact Or.inl rfl
  · split
    · exact Or.inr (Or.inr rfl)
    · exact Or.inr (Or.inl rfl)

theorem Lg.tags {base : Nat} {w : World} {l p : Nat} {q : Option Nat} {s : St} {n : Nat} (h : Lg base w l p q s n) : ∀ k, (k = l ∨ k = p) → ∃ xs t fr, w.heap[k]? = some (.cells xs t fr) ∧ t ≠ 5 := by
  obtain ⟨_, h2, v, hv, _, hp, hown, _⟩ := h
  rintro k (rfl | rfl)
  · exact ⟨_, _, _, h2, by decide⟩
  · exact ⟨_, _, _, hp, by decide⟩
theorem Lg.far {base : Nat} {w : World} {l p : Nat} {q : Option Nat} {s : St} {n : Nat} (h : Lg base w l p q s n) {k : Nat} {xs : Array Value} {fr : Nat × Nat} (hk : w.heap[k]? = some (.cells xs 68 fr)) : ¬ lfoot l p q k := by
  obtain ⟨_, h2, v, hv, _, hp, hown, _⟩ := h
  rintro (rfl | rfl | hf)
  · rw [h2] at hk; cases hk
  · rw [hp] at hk; cases hk
  · exact hown.ne hk (by decide) k (hv.trans hf) rfl

/-- what a put leaves. -/
def PutOut (base : Nat) (w w' : World) (cp l p : Nat) (q : Option Nat) (G : Int → List Nat) (c : Nat) (s1 : St) (n1 : Nat) : Prop :=
  ∃ q' b', Cs base w' cp l b' G c ∧ Lg base w' l p q' s1 n1 ∧ Kept base (fun j => (j = l ∨ j = p) ∨ j = cp) w w' ∧ Fresh w q q'

set_option maxRecDepth 20000 in
set_option maxHeartbeats 2000000 in
theorem put_ok {base cp l b c p : Nat} {q : Option Nat} {s : St} {n : Nat} {f : Int → List Nat} (g a : Addr) (ao : Option Addr) (m cap : Nat) (lst : List (Int × List Nat)) (hm : lst.length = m) (hm8 : m ≤ 1000) (w : World) (hC : Cs base w cp l b f c) (hc : c ≤ 100000) (hL : Lg base w l p q s n) (hS : Start w g a) (hb : base ≤ w.heap.size) (ho : s.ops ≤ 4611686018427387904) (hl : s.left ≤ 9223372036854775807)
    (hat : CAt w ao lst) (hwf : ∀ c ∈ lst, wf64 c.1) (hlen : ∀ x, (f x).length ≤ 12000) (h0 : refuseOf (fun _ => false) lst = 0) (R : Nat) (s1 : St) (hrep : s.replace (cats (rows (setF f lst))) = (R, s1)) (n1 : Nat) (hn1 : n1 = if R = 0 then takes (rows (setF f lst)) else n) :
    Calls Tryz.prog 29 #[.pointer (some ⟨cp, 0, none⟩), .slice ao m cap] w fun e w' => ∃ ev, e = .returned ev ∧ ErrC w' ev R ∧ PutOut base w w' cp l p q (if R = 0 then setF f lst else f) (c + m) s1 n1 := by
  have hval := refuse_zero h0
  obtain ⟨F, hF⟩ : ∃ F, setF f lst = F := ⟨_, rfl⟩
  have hFl : ∀ x, (F x).length ≤ 12000 := by rw [← hF]; exact setF_len hlen (fun c hc => (hval c hc).2)
  have RE := hide (refuse_any ao m cap lst hm hm8 w hat hwf)
  rw [h0] at RE
  rw [hF] at hrep hn1 ⊢
  obtain ⟨G, hG⟩ : ∃ G, (if R = 0 then F else f) = G := ⟨_, rfl⟩
  rw [hG]
  have HGG := hide hG
  have HC := hide hC
  have HL := hide hL
  have HS := hide hS
  have HAT := hide hat
  have HM := hide hm
  have HFF := hide hF
  have HFL := hide hFl
  have HVAL : Hid (∀ c ∈ lst, (0 ≤ c.1 ∧ c.1 < 8) ∧ c.2.length ≤ 1000000) := fun c hc => ⟨(hval c hc).1, Nat.le_trans (hval c hc).2 (by decide)⟩
  have HREP := hide hrep
  have HN1 := hide hn1
  have HRN := hide (rep_num hrep)
  clear hC hL hS hat hm hF hFl hval hrep hn1 hwf hlen h0 hG
  go_enter Tryz.func29, Tryz.ntmps29
  go_wp2_with fail
  refine (unhide RE).mono ?_
  rintro e w1 ⟨ev, rfl, he, b1⟩
  obtain rfl : ev = .nilIface := by
    rcases he with ⟨_, e⟩ | ⟨e, _⟩ | ⟨e, _⟩ | ⟨e, _⟩ | ⟨e, _⟩
    · exact e
    all_goals cases e
  have sz1 := b1.size
  have C1 := (unhide HC).below b1
  have x1 := C1.have
  obtain ⟨hb0, D, hoD, h2, h3⟩ := C1.2.2
  have CM := hide (clone_map asIs b c D w1 hoD)
  have H23 := hide (And.intro h2 h3)
  have B1 := hide b1
  clear b1 he hoD h2 h3 C1 hb0 RE
  go_wp2_with fail
  refine (unhide CM).mono ?_
  rintro e w2 ⟨rfl, ho2, _, b2⟩
  have sz2 := b2.size
  have hv2 : Hv base w2 w1.heap.size f c := ⟨by omega, D, ho2, (unhide H23).1, fun x => ((unhide H23).2 x).kept fun v hv => hv.below b2⟩
  have B2 := hide ((unhide B1).trans (b2.mono sz1))
  have SE := hide (set_any ao m cap lst (unhide HM) hm8 w2 hv2 (by omega) (by omega) ((unhide HAT).below (unhide B2)) (unhide HVAL))
  rw [unhide HFF] at SE
  clear ho2 b2 hv2 CM H23 B1
  go_wp2_with fail
  refine (unhide SE).mono ?_
  rintro e w3 ⟨rfl, hv3, k3⟩
  have sz3 := k3.size
  have B3 := hide ((unhide B2).trans (k3.low sz1 (by omega)))
  have C3 := (unhide HC).below (unhide B3)
  have x30 := C3.log
  have HSX : Hid (∀ Y : World, Below w.heap.size w Y → Y.cell? ⟨cp, 0, none⟩ = some (.pointer (some ⟨l, 0, none⟩))) := fun Y hY => ((unhide HC).below hY).log
  have LI := hide (listed_any w3.drew (hv3.below (drew_below w3)) (by omega) (fun x => Nat.le_trans (unhide HFL x) (by decide)))
  have HV3 := hide hv3
  have FT := hide (fit_rows (fun x => hv3.bytes x) (unhide HFL))
  obtain ⟨k, hk⟩ : ∃ k, (cellsOf F).length = k := ⟨_, rfl⟩
  have hk8 : k ≤ 8 := by rw [← hk]; exact cells_len F
  have HKK := hide hk
  have hkr : (rows F).length = k := by rw [rows, recs_len]; exact hk
  have HKR := hide hkr
  have HCM : Hid (∀ c ∈ cellsOf F, (0 ≤ c.1 ∧ c.1 < 8) ∧ c.2.length ≤ 1000000) := cells_mem (fun x => Nat.le_trans (unhide HFL x) (by decide))
  clear hv3 k3 SE B2 x1 C3 hk hkr
  go_wp2_with fail
  go_region_held_law (fun Y => Y.cell? ⟨cp, 0, none⟩ = some (.pointer (some ⟨l, 0, none⟩)))
    (first | exact (unhide HX6) | exact (unhide HSX) _ (unhide B5) | exact (unhide HSX) _ (unhide B4) | exact (unhide HSX) _ (unhide B3).drew)
    (first
      | (go_at_call 34
         refine (unhide LI).mono ?_
         rintro e w4 ⟨v4, rfl, r4, b4⟩
         obtain ⟨ao4, cap4, rfl, _, _, _, at4⟩ := r4.at
         rw [unhide HKK]
         have sz4 := b4.size
         have RC := hide (records_any ao4 k cap4 (cellsOf F) (unhide HKK) (by omega) w4 at4 (unhide HCM))
         have B4 := hide ((unhide B3).drew.trans (b4.mono (by have := (unhide B3).size; exact this)))
         have HV4 := hide (((unhide HV3).below (drew_below w3)).below b4)
         clear r4 at4 b4 LI)
      | (go_at_call 43
         refine (unhide RC).mono ?_
         rintro e w5 ⟨ao5, cap5, rfl, ra5, _, b5⟩
         have B5 := hide ((unhide B4).trans (b5.mono (unhide B4).size))
         have HV5 := hide ((unhide HV4).below b5)
         have KE := hide (ckeep_any base l p q s n g a ao5 k cap5 (rows F) (unhide HKR) w5 ((unhide HL).below (unhide B5)) ((unhide HS).below (unhide B5)) (Nat.le_trans hb (unhide B5).size) ho hl ra5 (unhide FT) (by omega) R s1 (unhide HREP) n1 (unhide HN1))
         clear ra5 b5 RC)
      | (go_at_call 42
         refine (unhide KE).mono ?_
         rintro e w6 ⟨q', rfl, l6, k6, f6⟩
         have l5 := (unhide HL).below (unhide B5)
         have c5 := (unhide HC).below (unhide B5)
         have hfar := l5.far c5.2.1
         have e6 := (k6.2 cp (blk_lt' c5.2.1) (fun e => hfar (e.imp id Or.inl))).trans c5.2.1
         have HX6 : Hid (w6.cell? ⟨cp, 0, none⟩ = some (.pointer (some ⟨l, 0, none⟩))) := (cell_of_block e6).trans rfl
         have C6 : Hid (Cs base w6 cp l b f c) := ⟨c5.1, e6, c5.2.2.kept k6 l5.tags⟩
         have HV6 := hide ((unhide HV5).kept k6 l5.tags)
         have E6 := hide e6
         have KK6 : Hid (Kept base (fun j => (j = l ∨ j = p) ∨ j = cp) w w6) := (Kept.of_below (f := fun j => (j = l ∨ j = p) ∨ j = cp) (unhide B5) hb).trans k6 (fun _ _ x => Or.inl x)
         have FF6 := hide (f6.mono (unhide B5).size)
         have L6 := hide l6
         clear l6 k6 f6 KE l5 c5 hfar e6))
  have hcp : base ≤ cp := (unhide HC).1
  rcases unhide HRN with rfl | rfl | rfl
  · have hf6 : w6.frozen? ⟨cp, 1, none⟩ = false := free_of_block (unhide E6)
    have c61 : w6.cell? ⟨cp, 1, none⟩ = some (.map (some b)) := (cell_of_block (unhide E6)).trans rfl
    obtain ⟨W7, hW7⟩ : ∃ W7, w6.setCell ⟨cp, 1, none⟩ (.map (some w1.heap.size)) = W7 := ⟨_, rfl⟩
    have k7 : Kept base (fun k => k = cp) w6 W7 := by rw [← hW7]; exact (Kept.refl base (fun k => k = cp) w6).setCell (p := ⟨cp, 1, none⟩) hcp rfl _
    have e7 : W7.heap[cp]? = some (.cells #[.pointer (some ⟨l, 0, none⟩), .map (some w1.heap.size)] 68 (0, 0)) := by rw [← hW7]; exact setCell_block (unhide E6)
    have hfar := (unhide L6).far (unhide E6)
    have FIN : Hid (Cs base W7 cp l w1.heap.size G (c + m) ∧ Lg base W7 l p q' s1 n1 ∧ Kept base (fun j => (j = l ∨ j = p) ∨ j = cp) w W7 ∧ Fresh w q q') := by
      have eG : F = G := unhide HGG
      rw [← eG]
      refine ⟨⟨hcp, e7, (unhide HV6).kept k7 (fun k e => e ▸ ⟨_, _, _, unhide E6, by decide⟩)⟩, (unhide L6).kept k7 (fun k hk e => hfar (by rw [← e]; exact hk)), (unhide KK6).trans k7 (fun _ _ x => Or.inr x), unhide FF6⟩
    have HW7 := hide hW7
    clear k7 e7 hfar hW7 HV6 L6 KK6 FF6 C6 HV3 HV4 HV5 B3 B4 B5
    go_wp2
    go_ret
    rw [unhide HW7]
    exact ⟨_, rfl, Or.inl ⟨rfl, rfl⟩, q', _, unhide FIN⟩
  · have FIN : Hid (Cs base w6 cp l b G (c + m) ∧ Lg base w6 l p q' s1 n1 ∧ Kept base (fun j => (j = l ∨ j = p) ∨ j = cp) w w6 ∧ Fresh w q q') := by
      have eG : f = G := unhide HGG
      rw [← eG]
      exact ⟨⟨hcp, (unhide C6).2.1, (unhide C6).2.2.mono (by omega)⟩, unhide L6, unhide KK6, unhide FF6⟩
    clear HV6 L6 KK6 FF6 C6 HV3 HV4 HV5 B3 B4 B5
    go_wp2
    go_ret
    exact ⟨_, rfl, Or.inr (Or.inl ⟨rfl, rfl⟩), q', _, unhide FIN⟩
  · have FIN : Hid (Cs base w6 cp l b G (c + m) ∧ Lg base w6 l p q' s1 n1 ∧ Kept base (fun j => (j = l ∨ j = p) ∨ j = cp) w w6 ∧ Fresh w q q') := by
      have eG : f = G := unhide HGG
      rw [← eG]
      exact ⟨⟨hcp, (unhide C6).2.1, (unhide C6).2.2.mono (by omega)⟩, unhide L6, unhide KK6, unhide FF6⟩
    clear HV6 L6 KK6 FF6 C6 HV3 HV4 HV5 B3 B4 B5
    go_wp2
    go_ret
    exact ⟨_, rfl, Or.inr (Or.inr (Or.inl ⟨rfl, rfl⟩)), q', _, unhide FIN⟩

/-- a row that is refused. -/
theorem put_no {base cp l b c : Nat} {f : Int → List Nat} (ao : Option Addr) (m cap : Nat) (lst : List (Int × List Nat)) (hm : lst.length = m) (hm8 : m ≤ 1000) (w : World) (_hC : Cs base w cp l b f c) (hat : CAt w ao lst) (hwf : ∀ c ∈ lst, wf64 c.1) (h0 : refuseOf (fun _ => false) lst ≠ 0) (R : Nat) (hR : refuseOf (fun _ => false) lst = R) :
    Calls Tryz.prog 29 #[.pointer (some ⟨cp, 0, none⟩), .slice ao m cap] w fun e w' => ∃ ev, e = .returned ev ∧ ErrC w' ev R ∧ Below w.heap.size w w' := by
  have RE := hide (refuse_any ao m cap lst hm hm8 w hat hwf)
  rw [hR] at RE h0
  clear _hC hat hm hwf hR
  go_enter Tryz.func29, Tryz.ntmps29
  go_wp2_with fail
  refine (unhide RE).mono ?_
  rintro e w1 ⟨ev, rfl, he, b1⟩
  have HE := hide he
  have B1 := hide b1
  clear RE b1
  rcases he with ⟨e, _⟩ | ⟨e, rfl⟩ | ⟨e, rfl⟩ | ⟨e, bb, rfl, _⟩ | ⟨e, bb, rfl, _⟩
  · exact absurd e h0
  all_goals
    clear e h0
    go_wp2
    go_ret
    exact ⟨_, rfl, unhide HE, unhide B1⟩

/-- Put, whatever put says. -/
theorem Put_of (cp : Nat) (ao : Option Addr) (m cap : Nat) (hm : 0 < m) (w : World) (R : Nat) (Q : World → Prop) (h : Calls Tryz.prog 29 #[.pointer (some ⟨cp, 0, none⟩), .slice ao m cap] w fun e w' => ∃ ev, e = .returned ev ∧ ErrC w' ev R ∧ Q w') :
    Calls Tryz.prog 14 #[.pointer (some ⟨cp, 0, none⟩), .slice ao m cap] w fun e w' => e = .returned (.int .i64 (R : Int)) ∧ Q w' := by
  have H := hide h
  have hmI : ¬ (m : Int) = 0 := by omega
  clear h
  go_enter Tryz.func14, Tryz.ntmps14
  go_wp2_with fail
  refine (unhide H).mono ?_
  rintro e w1 ⟨ev, rfl, he, hq⟩
  have NU := hide (cnumber_any ev R w1 he)
  have HQ := hide hq
  clear he hq H
  go_wp2_with fail
  refine (unhide NU).mono ?_
  rintro e w2 ⟨rfl, hw⟩
  replace hw := hw.symm
  subst hw
  clear NU
  go_wp2
  go_ret
  exact ⟨rfl, unhide HQ⟩
/-- Put of no cells. -/
theorem Put_none (cp : Nat) (ao : Option Addr) (cap : Nat) (w : World) : Calls Tryz.prog 14 #[.pointer (some ⟨cp, 0, none⟩), .slice ao 0 cap] w fun e w' => e = .returned (.int .i64 0) ∧ w' = w := by
  go_enter Tryz.func14, Tryz.ntmps14
  go_wp2
  go_ret
  exact ⟨rfl, rfl⟩
end Go.Proofs.YtnagfoclbdlenaaGreatDoor
