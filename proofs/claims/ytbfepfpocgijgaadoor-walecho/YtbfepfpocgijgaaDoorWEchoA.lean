/- The walk of WalEcho, where no record is small. -/
import Derived.Test.YtbfepfpocgijgaaDoorWEchoC
import Derived.Deep.DrawnRows
namespace Go.Proofs.YtbfepfpocgijgaaDoor
open Go.RowKit
attribute [local go_sem ↓] Go.wp_at_zero Go.wp_at_succ

set_option maxRecDepth 20000 in
set_option maxHeartbeats 16000000 in
theorem echo_none (aor : Option Addr) (nr cr : Nat) (xr : List (List Nat)) (hnr : xr.length = nr) (keep : Int) (g a : Addr) (w : World) (hr : RowsArg w aor xr) (hS : Start w g a) (hX : (smallOf xr).length = 0) :
    Calls Tryd.prog 5 #[.slice aor nr cr, .int .i64 keep] w fun e w' => e = .returned (.bool true) ∧ Below w.heap.size w w' := by
  have HS := hide hS
  have hz := hS.low
  obtain ⟨nR, hR1⟩ : ∃ n, (smallOf xr).length = n := ⟨_, rfl⟩
  have hsR := fun w' b => small_any w aor nr cr xr hnr w' hr b nR hR1
  have fR := fit_small hr
  have tR := takes_small xr
  have lR := smallOf_len xr
  have sR : ∀ x ∈ smallOf xr, x.length ≤ 300 := fun x hx => (smallOf_mem x hx).1
  rw [hR1] at lR hX
  have HX := hide hX
  clear hX
  generalize smallOf xr = XR at *
  have SR := hide hsR
  have FR := hide fR
  have HR1 := hide hR1
  have TR := hide tR
  have SL := hide sR
  clear hS hr hnr hsR fR hR1 tR sR
  go_enter Tryd.func5, Tryd.ntmps5
  go_wp2_with fail
  refine (known_any g a w (unhide HS)).mono ?_
  rintro e w1 ⟨rfl, b1⟩
  have B1 := hide b1
  have s1 := b1.size
  have z1 : 4 ≤ w1.heap.size := Nat.le_trans hz s1
  clear b1
  go_wp2_with fail
  refine (new_ok 1048576 w1 (by decide) (by decide)).mono ?_
  rintro e w2 ⟨rfl, t2, b2⟩
  have s2 := b2.size
  have B2 := hide ((unhide B1).trans (b2.mono s1))
  have HO := hide (nopen w1.heap.size w1.heap.size none 1048576 0 0 0 [] g a w2 t2 ((unhide HS).below (unhide B2)) s2 Fit.nil rfl (by decide))
  clear t2 b2
  go_wp2_with fail
  refine (unhide HO).mono ?_
  rintro e w3 ⟨l, rfl, hl3, lg3, b3⟩
  have B3 := hide ((unhide B2).trans (b3.mono (unhide B2).size))
  have s3 : w1.heap.size ≤ w3.heap.size := Nat.le_trans s2 b3.size
  have L3 := hide lg3
  obtain ⟨p, ep⟩ : ∃ p, w1.heap.size = p := ⟨_, rfl⟩
  rw [ep] at L3 s1 z1 s3 ⊢
  clear lg3 b3 HO B1 B2 ep s2 hl3
  go_wp2_with fail
  refine (unhide SR w3 (unhide B3)).mono ?_
  rintro e w4 ⟨aoR, cR, vR, rfl, o4, rv4, nl4, b4⟩
  have OR := hide (own_rebase o4 s3)
  have RR := hide rv4
  have L4 := hide ((unhide L3).below b4)
  have B4 := hide ((unhide B3).trans (b4.mono (unhide B3).size))
  have s4 : p ≤ w4.heap.size := Nat.le_trans s3 b4.size
  clear o4 rv4 nl4 b4 L3 B3
  go_wp2_with fail
  go_loopg [9, 10, 11] nR (fun gg av bv iv wr => ∃ (i n : Nat) (q : Option Nat) (ao : Option Addr) (cap : Nat) (vs : List Value) (aob : Option Addr) (mb cb : Nat), i + gg = nR ∧ iv = .int .i64 (i : Int) ∧ av = .slice ao i cap ∧ bv = .slice aob mb cb ∧ takes (XR.take i) = mb ∧ takes (echoes XR i) = n ∧ n ≤ 2780 * i ∧ Lg p wr l p q (Ls 1048576 (echoes XR i) 0 i) n ∧ wr.ownsRow p 32 1 (.slice ao i cap) i vs ∧ RowVals wr vs (echoes XR i) ∧ Own p wr (.slice aob mb cb) (cats (XR.take i)) ∧ Fit (echoes XR i) ∧
    (∀ v ∈ vs, ∀ k, v.ownBlock = some k → k < wr.heap.size ∧ ¬ lfoot l p q k ∧ (Value.slice aob mb cb).ownBlock ≠ some k ∧ ∃ cur fr, wr.heap[k]? = some (.cells cur 5 fr)) ∧ (∀ k, (Value.slice aob mb cb).ownBlock = some k → ¬ lfoot l p q k) ∧ wr.ownsRow p 32 1 (.slice aoR nR cR) nR vR ∧ (∀ k, (Value.slice ao i cap).ownBlock = some k → (Value.slice aoR nR cR).ownBlock ≠ some k) ∧ Below w.heap.size w wr ∧ p ≤ wr.heap.size ∧ (nR = 0 → ao = none))
  case atStart => exact ⟨0, 0, none, none, 0, [], none, 0, 0, by omega, rfl, rfl, rfl, rfl, rfl, by omega, unhide L4, World.ownsRow_nil _ _ _ _, RowVals.nil _, Own.nil _ _, Fit.nil, (fun v hv => by cases hv), (fun k hk => by simp [Value.ownBlock] at hk), unhide OR, (fun k hk => by simp [Value.ownBlock] at hk), unhide B4, s4, fun _ => rfl⟩
  case round =>
    obtain ⟨i, n, q, ao, cap, vs, aob, mb, cb, hig, rfl, rfl, rfl, hmb, hn, hnb, lg, oa, rv, ob, ft, far, fb, orr, ar, br, sr, nul⟩ := hrel
    have NUL := hide nul
    clear nul
    have HIG := hide hig
    have hiR : i ≤ nR := by omega
    have HMB := hide hmb
    have HN := hide hn
    have LG := hide lg
    have OA := hide oa
    have RV := hide rv
    have OB := hide ob
    have FT := hide ft
    have FAR := hide far
    have FB := hide fb
    have OR2 := hide orr
    have AR := hide ar
    have BR := hide br
    clear hig hmb hn lg oa rv ob ft far fb orr ar br L4 OR B4
    by_cases hlt : i < nR
    · have hix : i < XR.length := by rw [unhide HR1]; exact hlt
      obtain ⟨ad, r, cx, rfl, hc, hby, hcx, hnx⟩ := rows_at (unhide OR2) (unhide HR1) ((unhide RR).below (unhide BR)) i hix
      have hsu := take_succ XR [] i hix
      have hfx := unhide FR _ (getD_mem hix)
      have hsl := unhide SL _ (getD_mem hix)
      have hec : echo XR i = cats (XR.take (i + 1)) ++ frame (XR.getD i []) := rfl
      have heb := echo_bytes (unhide FR) hix
      have htk := takes_front XR (i + 1)
      have htb := unhide TR
      generalize XR.getD i [] = x at *
      obtain ⟨lx, hlx⟩ : ∃ lx, x.length = lx := ⟨_, rfl⟩
      rw [hlx] at hc hcx hsl
      have hmb1 : takes (XR.take (i + 1)) = mb + (8 + lx) := by rw [hsu, takes_snoc, unhide HMB, hlx]
      have hmbb : mb + (8 + lx) ≤ 2464 := by omega
      have hcs : cats (XR.take (i + 1)) = cats (XR.take i) ++ frame x := by rw [hsu, cats_snoc]
      have hel : (echo XR i).length = mb + (8 + lx) + (8 + lx) := by rw [hec, List.length_append, cats_len, hmb1, frame_length, hlx]
      have hes : echoes XR (i + 1) = echoes XR i ++ [echo XR i] := echoes_succ XR i
      have htn : takes (echoes XR (i + 1)) = n + (8 + (mb + (8 + lx) + (8 + lx))) := by rw [hes, takes_snoc, unhide HN, hel]
      have HLX := hide hlx
      have HMB1 := hide hmb1
      have HCS := hide hcs
      have HEC := hide hec
      have HEL := hide hel
      have HES := hide hes
      have HTN := hide htn
      have HEB := hide heb
      have HBY := hide hby
      have HNX := hide hnx
      clear hsu hfx hec heb htk htb hlx hmb1 hcs hel hes htn hby hnx hix
      go_wp2_with fail
      refine (rframe_any r lx cx x (unhide HLX) wr (unhide HBY) (unhide HNX) (by omega)).mono ?_
      rintro e w5 ⟨v5, rfl, o5, b5⟩
      obtain ⟨aof, capf, rfl, _, _, _, _, _⟩ := o5.slice
      have fl : (frame x).length = 8 + lx := by rw [frame_length, unhide HLX]
      rw [fl] at o5 ⊢
      have hof : ∀ k, (Value.slice aof (8 + lx) capf).ownBlock = some k → wr.heap.size ≤ k ∧ k < w5.heap.size := fun k hk => o5.1.lt k hk
      have O5 := hide (o5.rebase sr)
      have HOF := hide hof
      have FL := hide fl
      have OB5 := hide ((unhide OB).below b5)
      have s5 : p ≤ w5.heap.size := Nat.le_trans sr b5.size
      have B5 := hide b5
      clear o5 hof fl b5
      obtain ⟨y5, nl5, hc5⟩ := own_bytes3 (unhide O5)
      have Y5 := hide y5
      have NL5 := hide nl5
      clear y5 nl5
      go_wp2_with (at_builtin; refine wpList_append_bytes rfl (.tmp 47) (.tmp 48) rfl p _ (cats (XR.take i)) mb ((cats_len _).trans (unhide HMB)) rfl (unhide OB5) aof (8 + lx) capf (frame x) rfl (unhide FL) (unhide Y5) (unhide NL5) (by omega) s5 ?_)
      intro aob6 cb6 w6 o6 k6 hat6
      have hb6 : ∀ k, (Value.slice aob6 (mb + (8 + lx)) cb6).ownBlock = some k → (Value.slice aob mb cb).ownBlock = some k ∨ w5.heap.size ≤ k := fun k hk => by
        rcases hat6 with h | h
        · left; rw [← h]; exact hk
        · right; rw [h] at hk; simp at hk; omega
      have O6 : Hid (Own p w6 (.slice aof (8 + lx) capf) (frame x)) := (unhide O5).kept k6 (fun k hk hf => by have h1 := (unhide HOF k hk).1; have h2 := ((unhide OB).1.lt k hf).2; omega)
      have OB6 := hide o6
      have HNB6 : Hid (∀ k, (Value.slice aob6 (mb + (8 + lx)) cb6).ownBlock = some k → k < w6.heap.size) := fun k hk => (o6.1.lt k hk).2
      have HB6 := hide hb6
      have K6 := hide k6
      have s6 : p ≤ w6.heap.size := Nat.le_trans s5 k6.size
      have sz56 := k6.size
      clear o6 k6 hat6 hb6 Y5 NL5 hc5
      have bE : Below w6.heap.size w6 (w6.alloc (.cells #[] 5)) := (Below.refl _ w6).alloc (Nat.le_refl _) _
      have E6 := hide (own_empty p w6 s6)
      have OBE := hide ((unhide OB6).below bE)
      have OFE := hide ((unhide O6).below bE)
      have sE : p ≤ (w6.alloc (.cells #[] 5)).heap.size := Nat.le_trans s6 bE.size
      clear bE
      obtain ⟨yb, nlb, hcb⟩ := own_bytes3 (unhide OBE)
      have YB := hide yb
      have NLB := hide nlb
      clear yb nlb
      go_wp2_with (at_builtin; refine wpList_append_bytes rfl (.tmp 50) (.tmp 51) rfl p _ [] 0 rfl rfl (unhide E6) aob6 (mb + (8 + lx)) cb6 (cats (XR.take i) ++ frame x) rfl (by rw [List.length_append, cats_len, unhide HMB, unhide FL]) (unhide YB) (unhide NLB) (by omega) sE ?_)
      intro aox cx7 w7 o7 k7 hat7
      have b7 := below_new k7 (fun k hk => by simp only [Value.ownBlock, Option.some.injEq] at hk; omega)
      have hx7 : ∀ k, (Value.slice aox (mb + (8 + lx)) cx7).ownBlock = some k → w6.heap.size ≤ k := fun k hk => by
        rcases hat7 with h | h
        · rw [h] at hk; simp only [Value.ownBlock, Option.some.injEq] at hk; omega
        · rw [h] at hk; simp at hk; omega
      have OX7 : Hid (Own p w7 (.slice aox (mb + (8 + lx)) cx7) (cats (XR.take i) ++ frame x)) := by
        show Own p w7 (.slice aox (mb + (8 + lx)) cx7) (cats (XR.take i) ++ frame x)
        simpa using o7
      have OF7 := hide ((unhide O6).below b7)
      have OB7 := hide ((unhide OB6).below b7)
      have B7 := hide b7
      have HX7 := hide hx7
      have s7 : p ≤ w7.heap.size := Nat.le_trans s6 b7.size
      have sz67 := b7.size
      clear o7 k7 hat7 b7 hx7 E6 OBE OFE YB NLB hcb
      obtain ⟨yf, nlf, hcf⟩ := own_bytes3 (unhide OF7)
      have YF := hide yf
      have NLF := hide nlf
      clear yf nlf
      go_wp2_with (at_builtin; refine wpList_append_bytes rfl (.tmp 52) (.tmp 53) rfl p _ (cats (XR.take i) ++ frame x) (mb + (8 + lx)) (by rw [List.length_append, cats_len, unhide HMB, unhide FL]) rfl (unhide OX7) aof (8 + lx) capf (frame x) rfl (unhide FL) (unhide YF) (unhide NLF) (by omega) s7 ?_)
      intro aoy cy w8 o8 k8 hat8
      have hy8 : ∀ k, (Value.slice aoy (mb + (8 + lx) + (8 + lx)) cy).ownBlock = some k → w6.heap.size ≤ k := fun k hk => by
        rcases hat8 with h | h
        · rw [h] at hk; exact unhide HX7 k hk
        · rw [h] at hk; simp at hk; omega
      have OY8 : Hid (Own p w8 (.slice aoy (mb + (8 + lx) + (8 + lx)) cy) (echo XR i)) := by
        show Own p w8 (.slice aoy (mb + (8 + lx) + (8 + lx)) cy) (echo XR i)
        rw [unhide HEC, unhide HCS, List.append_assoc]; exact o8
      have OB8 : Hid (Own p w8 (.slice aob6 (mb + (8 + lx)) cb6) (cats (XR.take (i + 1)))) := by
        show Own p w8 (.slice aob6 (mb + (8 + lx)) cb6) (cats (XR.take (i + 1)))
        rw [unhide HCS]
        exact (unhide OB7).kept k8 (fun k hk hf => by have h1 := unhide HX7 k hf; have h2 := ((unhide OB6).1.lt k hk).2; omega)
      have kall : Kept p (fun k => (Value.slice aob mb cb).ownBlock = some k) wr w8 := by
        have h1 : Kept p (fun k => (Value.slice aob mb cb).ownBlock = some k) wr w6 := (Kept.of_below (unhide B5) sr).trans (unhide K6) (fun _ _ x => x)
        have h2 : Kept p (fun k => (Value.slice aob mb cb).ownBlock = some k) wr w7 := h1.trans (g := fun _ => False) (Kept.of_below (unhide B7) s6) (fun _ _ x => x.elim)
        exact h2.trans k8 (fun k hk x => by have := unhide HX7 k x; have := h1.size; omega)
      have L8 := hide ((unhide LG).kept kall (fun k hf e => unhide FB k e hf))
      have OA8 := hide (own_rows_apart (unhide OA) (unhide OB) kall)
      have OR8 := hide (own_rows_apart (unhide OR2) (unhide OB) kall)
      have RV8 := hide ((unhide RV).kept kall (fun v hv k hk e => (unhide FAR v hv k hk).2.2.1 e))
      have B8 := hide ((unhide BR).trans (kall.1.mono s1))
      have s8 : p ≤ w8.heap.size := Nat.le_trans sr kall.size
      have szr8 := kall.size
      have sz78 := k8.size
      have HY8 := hide hy8
      have KALL := hide kall
      clear o8 k8 hat8 hy8 kall OX7 OF7 OB7 YF NLF hcf O5 O6 OB5 OB6 K6 B7
      obtain ⟨y8, nl8, hc8⟩ := own_bytes3 (unhide OY8)
      have Y8 := hide y8
      have NL8 := hide nl8
      clear y8 nl8
      have hn16 : n ≤ 22240 := by omega
      go_wp2_with fail
      refine (nappend p l p q 1048576 0 i n (echoes XR i) g a aoy (mb + (8 + lx) + (8 + lx)) cy (echo XR i) (unhide HEL) w8 (unhide L8) ((unhide HS).below (unhide B8)) z1 s8 (unhide HN) (by omega) (unhide Y8) (unhide NL8) hc8 (by omega) (by decide) (by omega)).mono ?_
      rintro e w9 ⟨q9, rfl, l9, k9, f9⟩
      have sz6r : wr.heap.size ≤ w6.heap.size := Nat.le_trans (unhide B5).size sz56
      have farq : ∀ k, k < w8.heap.size → ¬ lfoot l p q k → ¬ lfoot l p q9 k := fun k hk hn h => by
        rcases h with rfl | rfl | h
        · exact hn (Or.inl rfl)
        · exact hn (Or.inr (Or.inl rfl))
        · rcases f9 k h with h' | h'
          · exact hn (Or.inr (Or.inr h'))
          · omega
      have lfl : ∀ k, lfoot l p q k → k < wr.heap.size := fun k hk => ((unhide LG).lt k hk).2
      have yfar : ∀ k, (Value.slice aoy (mb + (8 + lx) + (8 + lx)) cy).ownBlock = some k → ¬ lfoot l p q k := fun k hk hf => by have := unhide HY8 k hk; have := lfl k hf; omega
      have bfar : ∀ k, (Value.slice aob6 (mb + (8 + lx)) cb6).ownBlock = some k → ¬ lfoot l p q k := fun k hk hf => by
        rcases unhide HB6 k hk with h | h
        · exact unhide FB k h hf
        · have := lfl k hf; have := (unhide B5).size; omega
      have OY9 : Own p w9 (.slice aoy (mb + (8 + lx) + (8 + lx)) cy) (echo XR i) := (unhide OY8).kept k9 yfar
      have OB9 := hide ((unhide OB8).kept k9 bfar)
      have OA9 := hide ((unhide L8).rows (unhide OA8) k9)
      have OR9 := hide ((unhide L8).rows (unhide OR8) k9)
      have RV9 := (unhide RV8).kept k9 (fun v hv k hk => (unhide FAR v hv k hk).2.1)
      have B9 := hide ((unhide B8).trans (k9.1.mono s1))
      have s9 : p ≤ w9.heap.size := Nat.le_trans s8 k9.size
      have L9 := hide l9
      have fb9 : ∀ k, (Value.slice aob6 (mb + (8 + lx)) cb6).ownBlock = some k → ¬ lfoot l p q9 k := fun k hk => farq k ((unhide OB8).1.lt k hk).2 (bfar k hk)
      have far9 : ∀ v ∈ vs ++ [Value.slice aoy (mb + (8 + lx) + (8 + lx)) cy], ∀ k, v.ownBlock = some k → k < w9.heap.size ∧ ¬ lfoot l p q9 k ∧ (Value.slice aob6 (mb + (8 + lx)) cb6).ownBlock ≠ some k ∧ ∃ cur fr, w9.heap[k]? = some (.cells cur 5 fr) := fun v hv k hk => by
        rcases List.mem_append.1 hv with hv | hv
        · obtain ⟨g1, g2, g3, cur, fr, g4⟩ := unhide FAR v hv k hk
          refine ⟨by have := k9.size; omega, farq k (by omega) g2, fun e => ?_, cur, fr, ?_⟩
          · rcases unhide HB6 k e with h' | h'
            · exact g3 h'
            · have := (unhide B5).size; omega
          · rw [k9.2 k (by omega) g2, (unhide KALL).2 k g1 g3]; exact g4
        · simp only [List.mem_cons, List.not_mem_nil, or_false] at hv
          subst hv
          have h := ((unhide OY8).1.lt k hk).2
          have h1 := unhide HY8 k hk
          obtain ⟨_, cur, fr, hc⟩ := own_tag OY9.1 k hk
          exact ⟨by have := k9.size; omega, farq k h (yfar k hk), fun e => absurd (unhide HNB6 k e) (by omega), cur, fr, hc⟩
      have rvs := RV9.snoc (unhide HEL) (own_bytes3 OY9).1 (own_bytes3 OY9).2.2 (own_bytes3 OY9).2.1
      have RVS := hide rvs
      have FAR9 := hide far9
      have FB9 := hide fb9
      clear l9 k9 f9 farq lfl yfar bfar OY9 RV9 fb9 far9 rvs hc8
      go_wp2_with (at_builtin; refine wpList_append_rows rfl (.tmp 59) (.tmp 61) rfl p _ vs i rfl ((unhide OA9).alloc _) (some ⟨w9.heap.size, 0, none⟩) 1 1 [.slice aoy (mb + (8 + lx) + (8 + lx)) cy] rfl rfl built_one (one_slice _ _ _) (fun e => by cases e) (by omega) (by simp; omega) ?_)
      intro aoA capA wa oa ka hatA
      have kka : Kept p (fun k => (Value.slice ao i cap).ownBlock = some k) w9 wa := (Kept.of_below ((Below.refl _ w9).alloc (Nat.le_refl _) _) s9).trans ka (fun _ _ x => x)
      have hata : ∀ k, (Value.slice aoA (i + 1) capA).ownBlock = some k → (Value.slice ao i cap).ownBlock = some k ∨ w9.heap.size ≤ k := fun k hk => by
        rcases hatA with h | h
        · left; rw [← h]; exact hk
        · right; rw [h] at hk; simp at hk; omega
      have tagA : ∀ k cur fr, w9.heap[k]? = some (.cells cur 5 fr) → ¬ (Value.slice ao i cap).ownBlock = some k := fun k cur fr hc e => by
        obtain ⟨_, cur', fr', hc'⟩ := own_tag (unhide OA9) k e
        rw [hc] at hc'; cases hc'
      have La := hide ((unhide L9).grown (unhide OA9) kka)
      have OBa := hide (own_u8_apart (unhide OA9) (unhide OB9) kka)
      have RVa := hide ((unhide RVS).kept kka (fun v hv k hk => by obtain ⟨_, _, _, cur, fr, hc⟩ := unhide FAR9 v hv k hk; exact tagA k cur fr hc))
      have ORa := hide (kka.own (unhide OR9) (fun k hk e => unhide AR k e hk))
      have Ba := hide ((unhide B9).trans (kka.1.mono s1))
      have sa : p ≤ wa.heap.size := Nat.le_trans s9 kka.size
      have fara : ∀ v ∈ vs ++ [Value.slice aoy (mb + (8 + lx) + (8 + lx)) cy], ∀ k, v.ownBlock = some k → k < wa.heap.size ∧ ¬ lfoot l p q9 k ∧ (Value.slice aob6 (mb + (8 + lx)) cb6).ownBlock ≠ some k ∧ ∃ cur fr, wa.heap[k]? = some (.cells cur 5 fr) := fun v hv k hk => by
        obtain ⟨g1, g2, g3, cur, fr, g4⟩ := unhide FAR9 v hv k hk
        exact ⟨by have := kka.size; omega, g2, g3, cur, fr, by rw [kka.2 k g1 (tagA k cur fr g4)]; exact g4⟩
      have ara : ∀ k, (Value.slice aoA (i + 1) capA).ownBlock = some k → (Value.slice (some ad) nR cR).ownBlock ≠ some k := fun k hk e => by
        rcases hata k hk with h | h
        · exact unhide AR k h e
        · have := ((unhide OR9).lt k e).2; omega
      have ARa := hide ara
      have FARa := hide fara
      have OAa := hide oa
      clear oa ka kka hata tagA fara ara hatA
      go_wp2
      go_roundg (nR - (i + 1))
      case measure => have := unhide HIG; omega
      case rel =>
        refine ⟨i + 1, n + (8 + (mb + (8 + lx) + (8 + lx))), q9, aoA, capA, _, aob6, mb + (8 + lx), cb6, by omega, by go_num, rfl, rfl, unhide HMB1, unhide HTN, by omega, by rw [unhide HES]; exact unhide La, unhide OAa, by rw [unhide HES]; exact unhide RVa, unhide OBa, ?_, unhide FARa, unhide FB9, unhide ORa, unhide ARa, unhide Ba, sa, (fun h => by omega)⟩
        rw [unhide HES]; exact (unhide FT).snoc (unhide HEB) (by rw [unhide HEL]; omega)
    · have ei : i = nR := by omega
      subst ei
      clear hlt HIG OB FB OR2 HMB AR
      generalize echoes XR i = AL at *
      have HAL : Hid (AL.length = i) := by show _ = _; rw [← (unhide RV).1]; have := (unhide OA).1; omega
      obtain ⟨c, hc1, hc2, hc3⟩ : ∃ c, c ≤ n ∧ (Ls 1048576 AL 0 i).kept keep = c ∧ (Ls 1048576 AL 0 i).crash keep = ⟨1048576, (cats AL).take c, c, i, 0, false⟩ := by
        have h2 := (kept_spec (Ls 1048576 AL 0 i) keep (Nat.zero_le _)).2
        refine ⟨_, ?_, rfl, ?_⟩
        · simpa only [Ls, cats_len, Nat.zero_add, unhide HN] using h2
        · unfold St.crash
          simp only [Ls, Nat.zero_add]
      obtain ⟨K, r, f1, f2, f3, f4, f5, f6⟩ := front_cats (unhide FT) c (by rw [unhide HN]; exact hc1)
      have hK8 : K ≤ i := by rw [← unhide HAL]; exact f1
      have hcr := crash_any p p q _ keep wr (unhide LG).tape
      rw [hc2, hc3, f2] at hcr
      have HCR := hide hcr
      obtain ⟨tk, htk⟩ : ∃ tk, takes (AL.take K) = tk := ⟨_, rfl⟩
      have HTK := hide htk
      have htc : tk ≤ c := by rw [← htk]; exact f4
      have F3 := hide f3
      have F5 := hide f5
      clear hc2 hc3 hcr f1 f2 f3 f4 f5 f6 htk
      go_wp2_with fail
      refine (unhide HCR).mono ?_
      rintro e w5 ⟨rfl, t5, k5⟩
      have OA5 := (unhide LG).tape.rows (unhide OA) k5
      have RV5 := (unhide RV).kept k5 (fun v hv k hk e => (unhide FAR v hv k hk).2.1 (Or.inr (Or.inl e)))
      have B5 := (unhide BR).trans (k5.1.mono s1)
      have s5 : p ≤ w5.heap.size := Nat.le_trans sr k5.size
      have far5 : ∀ v ∈ vs, ∀ k, v.ownBlock = some k → k < w5.heap.size ∧ ¬ foot p q k := fun v hv k hk => by
        have := unhide FAR v hv k hk
        exact ⟨Nat.lt_of_lt_of_le this.1 k5.size, fun h => this.2.1 (Or.inr h)⟩
      have HOP := hide (npart p p q 1048576 c i tk (AL.take K) r g a w5 t5 ((unhide HS).below B5) s5 ((unhide FT).take K) (unhide F3) (unhide HTK) (by decide) (by omega))
      have T5 := hide t5
      have HOA5 := hide OA5
      have HRV5 := hide RV5
      have HB5 := hide B5
      have FAR5 := hide far5
      clear t5 k5 OA5 RV5 B5 far5 HCR LG OA RV BR FAR F3
      go_wp2_with fail
      refine (unhide HOP).mono ?_
      rintro e w6 ⟨q6, l', syn6, ops6, hops, rfl, hl6, lg6, k6, fr6⟩
      have oa6 := (unhide T5).rows (unhide HOA5) k6
      have rv6 := (unhide HRV5).kept k6 (fun v hv k hk e => (unhide FAR5 v hv k hk).2 (Or.inl e))
      have b6 := (unhide HB5).trans (k6.1.mono s1)
      have s6 : p ≤ w6.heap.size := Nat.le_trans s5 k6.size
      have far6 : ∀ v ∈ vs, ∀ k, v.ownBlock = some k → k < w6.heap.size ∧ ¬ lfoot l' p q6 k := fun v hv k hk => by
        have h5 := unhide FAR5 v hv k hk
        refine ⟨Nat.lt_of_lt_of_le h5.1 k6.size, fun h => ?_⟩
        rcases h with rfl | rfl | h
        · omega
        · exact h5.2 (Or.inl rfl)
        · rcases fr6 k h with h' | h'
          · exact h5.2 (Or.inr h')
          · omega
      have L6 := hide lg6
      have OA6 := hide oa6
      have RV6 := hide rv6
      have B6 := hide b6
      have FAR6 := hide far6
      clear lg6 k6 fr6 oa6 rv6 b6 far6 HOP T5 HOA5 HRV5 HB5 FAR5
      have ra6 := rows_at (unhide OA6) (unhide HAL) (unhide RV6)
      have RA6 := hide ra6
      clear ra6
      go_upto_block 2 with fail
      go_cut [16, 17] (fun kv tv wx => kv = .int .i64 (K : Int) ∧ tv = .int .i64 (tk : Int) ∧ wx = w6)
      case first =>
        go_wp2_with fail
        go_loop [16, 17] (fun kv tv => ∃ j t : Nat, j ≤ K ∧ kv = .int .i64 (j : Int) ∧ takes (AL.take j) = t ∧ tv = .int .i64 (t : Int)) (fun kv _ => K - (intOf kv).toNat)
        case atStart => exact ⟨0, 0, Nat.zero_le _, rfl, rfl, rfl⟩
        case round =>
          obtain ⟨j, t, hj, rfl, ht, rfl⟩ := hrel
          have htb : t ≤ tk := by rw [← ht, ← unhide HTK]; exact takes_mono AL hj
          have HT := hide ht
          clear ht
          by_cases hji : j < i
          · obtain ⟨ad, rr, cx, rfl, hcell, _, _, _⟩ := unhide RA6 j (by rw [unhide HAL]; exact hji)
            have hsu := take_succ AL [] j (by rw [unhide HAL]; exact hji)
            have hfx := (unhide FT _ (getD_mem (show j < AL.length by rw [unhide HAL]; exact hji))).2
            generalize AL.getD j [] = x at *
            have ht1 : takes (AL.take (j + 1)) = t + (8 + x.length) := by rw [hsu, takes_snoc, unhide HT]
            have j1 : (j : Int) < (i : Int) := by omega
            by_cases hjK : j < K
            · have hle : t + (8 + x.length) ≤ c := by rw [← ht1]; exact Nat.le_trans (takes_mono AL (show j + 1 ≤ K by omega)) (by rw [unhide HTK]; exact htc)
              have HT1 := hide ht1
              clear ht1 hsu
              go_wp2
              go_round
              case rel => exact ⟨j + 1, t + x.length + 8, by omega, by go_num, by rw [unhide HT1]; omega, by go_num⟩
              case measure => simp [intOf]; omega
            · have ejK : K = j := by omega
              subst ejK
              have hgt : c < t + (8 + x.length) := by rw [← ht1]; exact unhide F5 (by rw [unhide HAL]; exact hji)
              have et : t = tk := (unhide HT).symm.trans (unhide HTK)
              subst et
              clear ht1 hsu
              go_wp2
              go_meet
              exact ⟨rfl, rfl, rfl⟩
          · have ejK : K = j := by omega
            subst ejK
            have j1 : ¬ (K : Int) < (i : Int) := by omega
            have et : t = tk := (unhide HT).symm.trans (unhide HTK)
            subst et
            go_wp2
            go_meet
            exact ⟨rfl, rfl, rfl⟩
      case rest =>
        obtain ⟨rfl, rfl, ew⟩ := hcut
        obtain rfl := ew.symm
        obtain ⟨t, rfl⟩ : ∃ t, t = tk := ⟨_, rfl⟩
        obtain rfl : ao = none := unhide NUL (unhide HX)
        as_aux_lemma =>
          have HKL : Hid ((AL.take K).length = K) := by show _ = _; rw [List.length_take, unhide HAL]; omega
          have HCAP : Hid (cap = 0) := row_nil (unhide OA6) rfl
          have hKcap : K ≤ cap := by have := row_cap (unhide OA6); omega
          have VL : Hid ((vs.take K).length = K) := by show _ = _; rw [List.length_take, (unhide RV6).1, unhide HAL]; omega
          have YL : Hid ((AL.take K ++ [[109, 111, 114, 101]]).length = K + 1) := by show _ = _; rw [List.length_append, unhide HKL]; rfl
          have FY := hide (((unhide FT).take K).snoc (x := [109, 111, 114, 101]) (by decide) (by decide))
          have TY : Hid (takes (AL.take K ++ [[109, 111, 114, 101]]) = t + (8 + 4)) := by show _ = _; rw [takes_snoc, unhide HTK]; rfl
          have N1 := hide (nall p l' p q6 1048576 syn6 ops6 t (AL.take K) g a w6.drew ((unhide L6).below (drew_below w6)) ((unhide HS).below ((unhide B6).drew)) ((unhide FT).take K) (unhide HTK) (by decide) K (unhide HKL))
          have hE : ∀ (w : World) (g : Nat), w.shape? g = some (5, 4) → (convert 32 32 (.slice (some ⟨g, 0, none⟩) 4 4)).run Tryd.prog w = .ok (.slice (some ⟨g, 0, none⟩) 4 4) (w.freeze ⟨g, 4, none⟩ 1) := fun w g h => conv_mark w g 4 4 4 h
          have hs1 : ∀ (w : World) (n : Nat), w.heap.size = n → (w.alloc (.cells #[.int .u8 109, .int .u8 111, .int .u8 114, .int .u8 101] 5)).shape? n = some (5, 4) := fun w n h => shape_new w _ _ n h
          have hs2 : ∀ (w : World) (o : Obj) (n : Nat), w.shape? n = some (5, 4) → (w.alloc o).shape? n = some (5, 4) := fun w o n h => shape_old w o n _ h
          have hz1 := frz_size
          have hs3 : ∀ (w : World), (w.alloc (.cells #[.int .u8 109, .int .u8 111, .int .u8 114, .int .u8 101] 5)).shape? w.heap.size = some (5, 4) := fun w => hs1 w _ rfl
          have hs4 : ∀ (w : World) (o : Obj), ((w.alloc o).alloc (.cells #[.int .u8 109, .int .u8 111, .int .u8 114, .int .u8 101] 5)).shape? (w.heap.size + 1) = some (5, 4) := fun w o => hs1 (w.alloc o) _ (alloc_size w o)
          have hs5 : ∀ (w : World) (o : Obj), ((w.alloc (.cells #[.int .u8 109, .int .u8 111, .int .u8 114, .int .u8 101] 5)).alloc o).shape? w.heap.size = some (5, 4) := fun w o => hs2 _ o _ (hs3 w)
          have ht20 : t ≤ 30000 := by omega
          go_wp2_with fail
          as_aux_lemma =>
            go_region_held_law (fun _ => True) (trivial) (first
              | (go_at_call 17; refine (same_any ao2 aoG (K + 1) (K + 1) cap2 capG (AL.take K ++ [[109, 111, 114, 101]]) (AL.take K ++ [[109, 111, 114, 101]]) (unhide YL) (unhide YL) _ (unhide RAG) (unhide RG) (by omega) (by omega)).mono ?_; rintro e wH ⟨bb, rfl, hbb, bH⟩; obtain rfl := hbb rfl; have BH := hide ((unhide BG).trans (bH.mono (unhide BG).size)); clear hbb bH)
              | (go_at_call 17; refine (same_any ao1 none K K cap1 cap (AL.take K) (AL.take K) (unhide HKL) (unhide HKL) _ (unhide R1) (((unhide RA6).upto (unhide BB7)).take K) (by omega) (by omega)).mono ?_; rintro e wc ⟨bb, rfl, hbb, bc⟩; obtain rfl := hbb rfl; have L8 := hide ((unhide L7).below bc); have BB8 := hide ((unhide BB7).trans (bc.mono (unhide BB7).size)); clear hbb bc L7 BB7 R1)
              | (go_at_call 18; refine (nall p l' p q9 1048576 syn6 (ops6 + 1) (t + (8 + 4)) (AL.take K ++ [[109, 111, 114, 101]]) g a _ ((unhide L9).below (by as_aux_lemma => ((repeat (first | with_reducible exact Below.refl _ _ | with_reducible exact unhide HbC | with_reducible exact unhide HbA | with_reducible refine bel_alloc ?_ (Nat.le_refl _) | ((with_reducible refine bel_frz ?_ ?_); rotate_left; omega))); (first | done | fail)))) ((unhide HS).below ((unhide B9).trans ((show Below w9.heap.size w9 _ from (by as_aux_lemma => ((repeat (first | with_reducible exact Below.refl _ _ | with_reducible exact unhide HbC | with_reducible exact unhide HbA | with_reducible refine bel_alloc ?_ (Nat.le_refl _) | ((with_reducible refine bel_frz ?_ ?_); rotate_left; omega))); (first | done | fail)))).mono (unhide B9).size))) (unhide FY) (unhide TY) (by decide) (K + 1) (unhide YL)).mono ?_; rintro e wA ⟨ao2, cap2, rfl, ra2, _, bA⟩; have RA2 := hide ra2; have HbA := hide (show Below w9.heap.size w9 wA from bel_call (by as_aux_lemma => ((repeat (first | with_reducible exact Below.refl _ _ | with_reducible exact unhide HbC | with_reducible exact unhide HbA | with_reducible refine bel_alloc ?_ (Nat.le_refl _) | ((with_reducible refine bel_frz ?_ ?_); rotate_left; omega))); (first | done | fail))) bA); have HtA := hide (below_keeps bA); have HhA := hide (below_heap bA); have hsA := fun n => below_shape bA n (5, 4); (try have hqA := hsA w9.heap.size (by as_aux_lemma => ((repeat (first | (focus ((with_reducible refine hs1 _ _ ?_); (repeat (first | with_reducible rfl | rw [frz_size] | rw [alloc_size])); (first | done | fail))) | with_reducible refine shape_mark ?_ | with_reducible refine hs2 _ _ _ ?_ | with_reducible refine hsC _ ?_ | with_reducible refine hsA _ ?_)); (first | done | fail)))); (try have hqA1 := hsA (w9.heap.size + 1) (by as_aux_lemma => ((repeat (first | (focus ((with_reducible refine hs1 _ _ ?_); (repeat (first | with_reducible rfl | rw [frz_size] | rw [alloc_size])); (first | done | fail))) | with_reducible refine shape_mark ?_ | with_reducible refine hs2 _ _ _ ?_ | with_reducible refine hsC _ ?_ | with_reducible refine hsA _ ?_)); (first | done | fail)))); have szA := bA.size; (try simp only [alloc_size, frz_size] at szA); clear ra2 bA)
              | (go_at_call 18; refine (unhide N1).mono ?_; rintro e wb ⟨ao1, cap1, rfl, ra1, _, b1⟩; have R1 := hide ra1; have L7 := hide (((unhide L6).below (drew_below w6)).below b1); have BB7 := hide ((drew_below w6).trans (b1.mono (Nat.le_refl _))); clear ra1 b1 N1)
              | (go_at_call 26; refine (bytes_own p p q6 (Ls 1048576 (AL.take K) syn6 ops6) (cats (AL.take K)) t rfl ((cats_len _).trans (unhide HTK)) _ (unhide L8).tape).mono ?_; rintro e wd ⟨aod, capd, rfl, _, bd⟩; have L8b := hide ((unhide L8).below bd); have BB9 := hide ((unhide BB8).trans (bd.mono (unhide BB8).size)); clear bd L8 BB8)
              | (go_at_call 13; have bW : Below wd.heap.size wd ((wd.alloc (.cells #[.int .u8 109, .int .u8 111, .int .u8 114, .int .u8 101] 5)).freeze ⟨wd.heap.size, 4, none⟩ 1) := bel_frz (bel_alloc (Below.refl _ _) (Nat.le_refl _)) (Nat.le_refl _); have lW := (unhide L8b).below bW; have oW := own_below (unhide OA6) ((unhide BB9).trans (bW.mono (unhide BB9).size)); have rW := (unhide RV6).below ((unhide BB9).trans (bW.mono (unhide BB9).size)); have dW := (unhide B6).trans (((unhide BB9).trans (bW.mono (unhide BB9).size)).mono (unhide B6).size); refine (nappend p l' p q6 1048576 syn6 ops6 t (AL.take K) g a (some ⟨wd.heap.size, 0, none⟩) 4 4 [109, 111, 114, 101] rfl _ lW ((unhide HS).below dW) z1 (Nat.le_trans s6 ((unhide BB9).trans (bW.mono (unhide BB9).size)).size) (unhide HTK) (by omega) (more_bytes (cell_mark (cell_new rfl rfl)) (cell_mark (cell_new rfl rfl)) (cell_mark (cell_new rfl rfl)) (cell_mark (cell_new rfl rfl))) (fun h => by cases h) (by decide) (by decide) (by decide) (by omega)).mono ?_; rintro e w9 ⟨q9, rfl, l9, k9, _⟩; have L9 := hide l9; have OA9 := hide (lW.rows oW k9); have RV9 := hide (rW.kept k9 (fun v hv k hk => (unhide FAR6 v hv k hk).2)); have B9 := hide (dW.trans (k9.1.mono s1)); have s9 : p ≤ w9.heap.size := Nat.le_trans (Nat.le_trans s6 ((unhide BB9).trans (bW.mono (unhide BB9).size)).size) k9.size; clear bW lW oW rW dW l9 k9 L8b BB9)
              | ((with_reducible refine step_if (.tmp 122) (.tmp 125) (by with_unfolding_all rfl) (by kernel_rfl) ?_); refine step_rows (.tmp 122) (.tmp 125) rfl p (.slice (some ⟨_, 0, none⟩) 0 0) [] 0 rfl (rows_nil (by as_aux_lemma => ((repeat (first | (focus ((with_reducible refine heap_new ?_); (repeat (first | with_reducible rfl | rw [frz_size] | rw [alloc_size])); (first | done | fail))) | with_reducible refine heap_old ?_ | ((with_reducible refine heap_mark ?_ ?_); rotate_left; omega) | with_reducible refine unhide HhA _ _ ?_)); (first | done | fail))) (by omega)) none K cap (vs.take K) rfl (unhide VL) (fun i u hi => by obtain ⟨ad', e, hc⟩ := rows_cells (unhide OA9) i u (take_get hi); exact ⟨ad', e, by rw [(show Below w9.heap.size w9 _ from (by as_aux_lemma => ((repeat (first | with_reducible exact Below.refl _ _ | with_reducible exact unhide HbC | with_reducible exact unhide HbA | with_reducible refine bel_alloc ?_ (Nat.le_refl _) | ((with_reducible refine bel_frz ?_ ?_); rotate_left; omega))); (first | done | fail)))).cell (blk_lt hc)]; exact hc⟩) (fun u hu => (unhide RV9).one u (List.mem_of_mem_take hu)) (fun _ => unhide HCAP) (by omega) (by (try simp only [alloc_size, frz_size]); omega) ?_; intro aoC capC wC oC kC hatC; simp only [Nat.zero_add] at oC hatC ⊢; have HKC := hide (nil_grown (by as_aux_lemma => ((repeat (first | (focus ((with_reducible refine heap_new ?_); (repeat (first | with_reducible rfl | rw [frz_size] | rw [alloc_size])); (first | done | fail))) | with_reducible refine heap_old ?_ | ((with_reducible refine heap_mark ?_ ?_); rotate_left; omega) | with_reducible refine unhide HhA _ _ ?_)); (first | done | fail))) kC); have hsC := shape_grown (by as_aux_lemma => ((repeat (first | (focus ((with_reducible refine heap_new ?_); (repeat (first | with_reducible rfl | rw [frz_size] | rw [alloc_size])); (first | done | fail))) | with_reducible refine heap_old ?_ | ((with_reducible refine heap_mark ?_ ?_); rotate_left; omega) | with_reducible refine unhide HhA _ _ ?_)); (first | done | fail))) kC; (try have hq1 := hsC w9.heap.size (by as_aux_lemma => ((repeat (first | (focus ((with_reducible refine hs1 _ _ ?_); (repeat (first | with_reducible rfl | rw [frz_size] | rw [alloc_size])); (first | done | fail))) | with_reducible refine shape_mark ?_ | with_reducible refine hs2 _ _ _ ?_ | with_reducible refine hsC _ ?_ | with_reducible refine hsA _ ?_)); (first | done | fail)))); (try have hq2 := hsC (w9.heap.size + 1) (by as_aux_lemma => ((repeat (first | (focus ((with_reducible refine hs1 _ _ ?_); (repeat (first | with_reducible rfl | rw [frz_size] | rw [alloc_size])); (first | done | fail))) | with_reducible refine shape_mark ?_ | with_reducible refine hs2 _ _ _ ?_ | with_reducible refine hsC _ ?_ | with_reducible refine hsA _ ?_)); (first | done | fail)))); (try have hq3 := hsC wA.heap.size (by as_aux_lemma => ((repeat (first | (focus ((with_reducible refine hs1 _ _ ?_); (repeat (first | with_reducible rfl | rw [frz_size] | rw [alloc_size])); (first | done | fail))) | with_reducible refine shape_mark ?_ | with_reducible refine hs2 _ _ _ ?_ | with_reducible refine hsC _ ?_ | with_reducible refine hsA _ ?_)); (first | done | fail)))); (try have hq4 := hsC (wA.heap.size + 1) (by as_aux_lemma => ((repeat (first | (focus ((with_reducible refine hs1 _ _ ?_); (repeat (first | with_reducible rfl | rw [frz_size] | rw [alloc_size])); (first | done | fail))) | with_reducible refine shape_mark ?_ | with_reducible refine hs2 _ _ _ ?_ | with_reducible refine hsC _ ?_ | with_reducible refine hsA _ ?_)); (first | done | fail)))); have HNC := hide (nil_apart (by as_aux_lemma => ((repeat (first | (focus ((with_reducible refine heap_new ?_); (repeat (first | with_reducible rfl | rw [frz_size] | rw [alloc_size])); (first | done | fail))) | with_reducible refine heap_old ?_ | ((with_reducible refine heap_mark ?_ ?_); rotate_left; omega) | with_reducible refine unhide HhA _ _ ?_)); (first | done | fail))) hatC); have HbC := hide (show Below w9.heap.size w9 wC from bel_kept (by as_aux_lemma => ((repeat (first | with_reducible exact Below.refl _ _ | with_reducible exact unhide HbC | with_reducible exact unhide HbA | with_reducible refine bel_alloc ?_ (Nat.le_refl _) | ((with_reducible refine bel_frz ?_ ?_); rotate_left; omega))); (first | done | fail))) kC (fun k hk => by simp only [Value.ownBlock, Option.some.injEq] at hk; omega) (Nat.le_refl _)); have RAC := RA2; have HCG : Hid (∀ k, (Value.slice aoC K capC).ownBlock = some k → w9.heap.size ≤ k) := (fun k hk => by rcases hatC with h | h <;> rw [h] at hk <;> simp only [Value.ownBlock, Option.some.injEq, alloc_size, frz_size] at hk <;> omega); have szC := kC.size; (try simp only [alloc_size, frz_size] at szC); have OC : Hid (wC.ownsRow p 32 1 (.slice aoC K capC) K (vs.take K)) := (by show wC.ownsRow p 32 1 (.slice aoC K capC) K (vs.take K); simpa using oC); clear oC kC hatC RA2)
              | ((with_reducible refine step_if (.tmp 126) (.tmp 129) (by with_unfolding_all rfl) (by kernel_rfl) ?_); refine step_row1 (.tmp 126) (.tmp 129) (.tmp 128) rfl p (.slice aoC K capC) (vs.take K) K rfl (by as_aux_lemma => ((repeat (first | with_reducible exact unhide OC | with_reducible refine World.ownsRow.alloc ?_ _ | ((with_reducible refine own_mark ?_ 4 ?_); rotate_left; (focus ((repeat (first | (focus ((with_reducible refine hs1 _ _ ?_); (repeat (first | with_reducible rfl | rw [frz_size] | rw [alloc_size])); (first | done | fail))) | with_reducible refine shape_mark ?_ | with_reducible refine hs2 _ _ _ ?_ | with_reducible refine hsC _ ?_ | with_reducible refine hsA _ ?_)); (first | done | fail)))))); (first | done | fail))) _ _ rfl rfl (by as_aux_lemma => ((repeat (first | (focus ((with_reducible refine cell_new ?_ ?_); rotate_left; (with_unfolding_all rfl); (repeat (first | with_reducible rfl | rw [frz_size] | rw [alloc_size])); (first | done | fail))) | with_reducible refine cell_old ?_ | with_reducible refine cell_mark ?_ | with_reducible refine unhide HKC _ _ ?_ | with_reducible refine unhide HtA _ _ ?_)); (first | done | fail))) (by omega) (by (try simp only [alloc_size, frz_size]); omega) ?_; intro aoG capG wG oG kG hatG; have HbG := hide (show Below w9.heap.size w9 wG from bel_kept (by as_aux_lemma => ((repeat (first | with_reducible exact Below.refl _ _ | with_reducible exact unhide HbC | with_reducible exact unhide HbA | with_reducible refine bel_alloc ?_ (Nat.le_refl _) | ((with_reducible refine bel_frz ?_ ?_); rotate_left; omega))); (first | done | fail))) kG (unhide HCG) (Nat.le_refl _)); have RAG := hide ((unhide RAC).keeps (fun a u h => kept_cell kG (by as_aux_lemma => ((repeat (first | with_reducible exact h | with_reducible refine cell_old ?_ | with_reducible refine cell_mark ?_ | with_reducible refine unhide HKC _ _ ?_)); (first | done | fail))) (unhide HNC a u (by as_aux_lemma => ((repeat (first | with_reducible exact h | with_reducible refine cell_old ?_ | with_reducible refine cell_mark ?_)); (first | done | fail)))))); have RG := hide (rows_at oG (unhide YL) ((((unhide RV9).take K).below (unhide HbG)).snoc (x := [109, 111, 114, 101]) rfl (more_grown (m := K) (vs := vs.take K) kG (by as_aux_lemma => ((repeat (first | with_reducible exact unhide OC | with_reducible refine World.ownsRow.alloc ?_ _ | ((with_reducible refine own_mark ?_ 4 ?_); rotate_left; (focus ((repeat (first | (focus ((with_reducible refine hs1 _ _ ?_); (repeat (first | with_reducible rfl | rw [frz_size] | rw [alloc_size])); (first | done | fail))) | with_reducible refine shape_mark ?_ | with_reducible refine hs2 _ _ _ ?_ | with_reducible refine hsC _ ?_ | with_reducible refine hsA _ ?_)); (first | done | fail)))))); (first | done | fail))) (by as_aux_lemma => ((repeat (first | (focus ((with_reducible refine hs1 _ _ ?_); (repeat (first | with_reducible rfl | rw [frz_size] | rw [alloc_size])); (first | done | fail))) | with_reducible refine shape_mark ?_ | with_reducible refine hs2 _ _ _ ?_ | with_reducible refine hsC _ ?_ | with_reducible refine hsA _ ?_)); (first | done | fail))) (by as_aux_lemma => ((repeat (first | (focus ((with_reducible refine cell_new ?_ ?_); rotate_left; (with_unfolding_all rfl); (repeat (first | with_reducible rfl | rw [frz_size] | rw [alloc_size])); (first | done | fail))) | with_reducible refine cell_old ?_ | with_reducible refine cell_mark ?_ | with_reducible refine unhide HKC _ _ ?_ | with_reducible refine unhide HtA _ _ ?_)); (first | done | fail))) (by as_aux_lemma => ((repeat (first | (focus ((with_reducible refine cell_new ?_ ?_); rotate_left; (with_unfolding_all rfl); (repeat (first | with_reducible rfl | rw [frz_size] | rw [alloc_size])); (first | done | fail))) | with_reducible refine cell_old ?_ | with_reducible refine cell_mark ?_ | with_reducible refine unhide HKC _ _ ?_ | with_reducible refine unhide HtA _ _ ?_)); (first | done | fail))) (by as_aux_lemma => ((repeat (first | (focus ((with_reducible refine cell_new ?_ ?_); rotate_left; (with_unfolding_all rfl); (repeat (first | with_reducible rfl | rw [frz_size] | rw [alloc_size])); (first | done | fail))) | with_reducible refine cell_old ?_ | with_reducible refine cell_mark ?_ | with_reducible refine unhide HKC _ _ ?_ | with_reducible refine unhide HtA _ _ ?_)); (first | done | fail))) (by as_aux_lemma => ((repeat (first | (focus ((with_reducible refine cell_new ?_ ?_); rotate_left; (with_unfolding_all rfl); (repeat (first | with_reducible rfl | rw [frz_size] | rw [alloc_size])); (first | done | fail))) | with_reducible refine cell_old ?_ | with_reducible refine cell_mark ?_ | with_reducible refine unhide HKC _ _ ?_ | with_reducible refine unhide HtA _ _ ?_)); (first | done | fail)))) (Nat.le_refl 4) (fun e => by cases e))); have BG := HbG; clear oG kG hatG)
              | (fail))
            all_goals (as_aux_lemma =>
              go_wp2
              go_ret
              exact ⟨rfl, (unhide B9).trans ((unhide BH).mono (unhide B9).size)⟩)
end Go.Proofs.YtbfepfpocgijgaaDoor
