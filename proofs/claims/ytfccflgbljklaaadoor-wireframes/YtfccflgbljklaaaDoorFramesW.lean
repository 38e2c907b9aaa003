/- The walk of WireFrames. -/
import Derived.Test.YtfccflgbljklaaaDoorCat
import Derived.Test.YtfccflgbljklaaaDoorRFrame
import Derived.BigQuiet
import Derived.Deep.QuietTactic
namespace Go.Proofs.YtfccflgbljklaaaDoor
open Go.RowKit

/-- a slice of rows of bytes that came in. -/
def RowsArg (w : World) (ao : Option Addr) (xs : List (List Nat)) : Prop :=
  ∀ i, i < xs.length → ∃ a r cap, ao = some a ∧ w.cell? (a.add i) = some (.slice r (xs.getD i []).length cap) ∧ Bytes w r (xs.getD i []) ∧ (xs.getD i []).length ≤ cap ∧ (r = none → cap = 0)
theorem RowsArg.below {w w' : World} {ao : Option Addr} {xs : List (List Nat)} (h : RowsArg w ao xs) (hb : Below w.heap.size w w') : RowsArg w' ao xs := fun i hi => by
  obtain ⟨a, r, cap, h1, h2, h3, h4, h5⟩ := h i hi
  exact ⟨a, r, cap, h1, by rw [hb.cell (blk_lt h2)]; exact h2, h3.below hb, h4, h5⟩
theorem Tryd.info3 : (Tryd.prog.info? 3).map (fun i => (i.zero, i.size, i.bytes)) = some (some (.int .i64 0), 1, 8) := by kernel_rfl
/-- where the frames end. -/
def endsOf (xs : List (List Nat)) (k : Nat) : List Value := (List.range k).map fun j => Value.int .i64 (((cat xs (j + 1)).length : Nat) : Int)
theorem endsOf_succ (xs : List (List Nat)) (k : Nat) : endsOf xs (k + 1) = endsOf xs k ++ [Value.int .i64 (((cat xs (k + 1)).length : Nat) : Int)] := by
  simp [endsOf, List.range_succ]
theorem endsOf_len (xs : List (List Nat)) (k : Nat) : (endsOf xs k).length = k := by simp [endsOf]
theorem endsOf_get (xs : List (List Nat)) (k j : Nat) (h : j < k) : (endsOf xs k)[j]? = some (Value.int .i64 (((cat xs (j + 1)).length : Nat) : Int)) := by
  simp [endsOf, h]
theorem one_int (n : Int) : ∀ u ∈ [Value.int .i64 n], u.oneCell' = true := by intro u hu; simp only [List.mem_cons, List.not_mem_nil, or_false] at hu; subst hu; rfl

theorem row_shape {w : World} {base : Nat} {e : TypeId} {v : Value} {n : Nat} {xs : List Value} (h : w.ownsRow base e 1 v n xs) :
    ∃ ao cap, v = .slice ao n cap ∧ ∀ j, j < n → ∃ g, ao = some ⟨g, 0, none⟩ ∧ w.cell? ⟨g, j, none⟩ = xs[j]? := by
  rcases h.2 with ⟨rfl, rfl⟩ | ⟨g, cap, cur, rfl, _⟩
  · exact ⟨none, 0, rfl, fun j hj => by omega⟩
  · exact ⟨_, cap, rfl, fun j hj => ⟨g, rfl, h.cellAt j (by omega)⟩⟩
/-- how many frames are whole. -/
theorem count_whole (xs : List (List Nat)) (c : Nat) : ∀ m, ∃ K, K ≤ m ∧ (cat xs K).length ≤ c ∧ (K = m ∨ c < (cat xs (K + 1)).length)
  | 0 => ⟨0, Nat.le_refl _, by simp [cat_zero], Or.inl rfl⟩
  | m + 1 => by
    obtain ⟨K, h1, h2, h3⟩ := count_whole xs c m
    rcases h3 with rfl | h3
    · by_cases h : (cat xs (K + 1)).length ≤ c
      · exact ⟨K + 1, Nat.le_refl _, h, Or.inl rfl⟩
      · exact ⟨K, by omega, h2, Or.inr (by omega)⟩
    · exact ⟨K, by omega, h2, Or.inr h3⟩
theorem cat_le (xs : List (List Nat)) {j k : Nat} (h : j ≤ k) : (cat xs j).length ≤ (cat xs k).length := by
  obtain ⟨more, e⟩ := cat_mono xs h
  rw [e]; simp

set_option maxRecDepth 20000 in
set_option maxHeartbeats 4000000 in
theorem frames_walk (ao : Option Addr) (n cap : Nat) (xs : List (List Nat)) (hn : xs.length = n) (hx : ∀ x ∈ xs, ∀ b ∈ x, b < 256) (cut : Int) (w : World) (hR : RowsArg w ao xs) (hS : Start w) :
    Calls Tryd.prog 6 #[.slice ao n cap, .int .i64 cut] w fun e w' => e = .returned (.bool true) ∧ Below w.heap.size w w' := by
  obtain ⟨i0, hi, hz0, hz1, hz2⟩ := info_parts Tryd.info5
  obtain ⟨i3, gi, gz0, gz1, gz2⟩ := info_parts Tryd.info3
  have HN := hide hn
  have HX := hide hx
  have HR := hide hR
  have HS := hide hS
  clear hn hx hR hS
  go_enter Tryd.func6, Tryd.ntmps6
  go_wp2_with fail
  refine (known_any w (unhide HS)).mono ?_
  rintro e w1 ⟨rfl, hb1⟩
  have B1 := hide hb1
  clear hb1
  go_wp2_with fail
  go_loopg [5, 6, 7] n (fun g bv ev iv wr => ∃ k : Nat, k ≤ n ∧ k ≤ 12 ∧ g = n - k ∧ iv = .int .i64 k ∧ Own w.heap.size wr bv (cat xs k) ∧ wr.ownsRow w.heap.size 3 1 ev k (endsOf xs k) ∧ Below w.heap.size w wr ∧ ∀ j, j < k → (xs.getD j []).length ≤ 300)
  case atStart => exact ⟨0, by omega, by omega, by omega, rfl, Own.nil _ _, World.ownsRow_nil _ _ _ _, unhide B1, fun j hj => by omega⟩
  case round =>
    obtain ⟨k, hkn, hk12, hg, rfl, hown, hends, hbel, hall⟩ := hrel
    have HG := hide hg
    have HA := hide hall
    have hcl := cat_len_le k (by rw [unhide HN]; exact hkn) hall
    have hsz := hbel.size
    have BEL := hide hbel
    have OW := hide hown
    have EN := hide hends
    clear hg hall hbel hown hends B1
    by_cases hin : k < n ∧ k < 12
    · obtain ⟨hk1, hk2⟩ := hin
      obtain ⟨a, r, cp, rfl, hcell, hby, hlc, hrn⟩ := ((unhide HR).below ((unhide BEL))) k (by rw [unhide HN]; exact hk1)
      have HBY := hide hby
      have HRN := hide hrn
      have hsu := cat_succ xs k (by rw [unhide HN]; exact hk1)
      have HSU := hide hsu
      clear hby hrn hsu
      generalize hxk : xs.getD k [] = x at *
      have HXK := hide hxk
      clear hxk
      by_cases h3 : 300 < x.length
      · go_wp2
        go_ret
        exact ⟨rfl, unhide BEL⟩
      · go_wp2_with fail
        refine (frame_all r x.length cp x rfl wr (unhide HBY) (unhide HRN) (by omega) ((unhide HS).below (unhide BEL))).mono ?_
        rintro e w2 ⟨v2, rfl, o2, hb2⟩
        have hcell2 : w2.cell? (a.add k) = some (.slice r x.length cp) := by rw [hb2.cell (blk_lt hcell)]; exact hcell
        have HBY2 := hide ((unhide HBY).below hb2)
        have O2 := hide o2
        have B2 := hide hb2
        have s2 := hb2.size
        clear o2 hb2 hcell HBY
        go_wp2_with fail
        refine (rframe_any r x.length cp x rfl w2 (unhide HBY2) (unhide HRN) (by omega)).mono ?_
        rintro e w3 ⟨v3, rfl, o3, hb3⟩
        obtain ⟨ao3, cap3, rfl, _, _, by3, _⟩ := o3.slice
        obtain ⟨ao2, cap2, rfl, _, _, by2, _⟩ := ((unhide O2).below hb3).slice
        have fl := frame_length x
        obtain ⟨a2, rfl⟩ : ∃ a2, ao2 = some a2 := by
          cases ao2 with
          | none => have := by2.none_nil; rw [this] at fl; simp at fl; omega
          | some a2 => exact ⟨a2, rfl⟩
        rw [fl]
        have c2 := conv_str (cap := cap2) by2 fl
        have c3 := conv_str (cap := cap3) by3 fl
        have own3 := own_below (own_below (unhide OW).1 (unhide B2)) hb3
        have end3 := own_below (own_below (unhide EN) (unhide B2)) hb3
        have nw3 := by2.news
        have s3 : w.heap.size ≤ w3.heap.size := Nat.le_trans hsz (Nat.le_trans s2 hb3.size)
        have B3 := hide ((unhide BEL).trans (((unhide B2).trans (hb3.mono s2)).mono hsz))
        have FB := hide by2.1
        clear o3 hb3 by3 by2 hcell2
        generalize str (frame x) = sx at *
        go_wp2_with (at_builtin; refine wpList_append_own _ rfl (.tmp 61) (.tmp 62) 27 rfl w.heap.size 5 i0 (.int .u8 0) 1 1 Tryd.underlying27 hi hz0 hz1 hz2 rfl (by decide) _ _ _ rfl own3 a2 (8 + x.length) cap2 (u8s (frame x)) rfl (by simp [u8s, fl]) nw3 (u8s_one _) (by unfold maxLen; omega) (by omega) s3 ?_)
        intro v4 w4 own4 g4 _
        have k4 : Only w.heap.size [5] w3 w4 := (Only.refl _ _ _).own own3 g4 s3 (Nat.le_refl _) (by simp)
        have end4 := own_only end3 k4 (by decide)
        have s4 : w.heap.size ≤ w4.heap.size := Nat.le_trans s3 k4.size
        obtain ⟨gb, cap4, rfl⟩ : ∃ gb cap4, v4 = .slice (some ⟨gb, 0, none⟩) ((cat xs k).length + (8 + x.length)) cap4 := by
          rcases own4.2 with ⟨_, h0⟩ | ⟨gb, cap4, cur, rfl, _⟩
          · omega
          · exact ⟨gb, cap4, rfl⟩
        have ec : (cat xs (k + 1)).length = (cat xs k).length + (8 + x.length) := by rw [unhide HSU, List.length_append, fl]
        have O4 : Hid (Own w.heap.size w4 (.slice (some ⟨gb, 0, none⟩) ((cat xs k).length + (8 + x.length)) cap4) (cat xs (k + 1))) := by
          refine ⟨?_, cat_bytes (unhide HX) _⟩
          rw [ec, unhide HSU, show u8s (cat xs k ++ frame x) = u8s (cat xs k) ++ u8s (frame x) by simp [u8s]]
          exact own4
        have B4 := hide ((unhide B3).trans k4.below)
        have EC := hide ec
        clear own4 g4 k4 own3 end3 nw3 c2 c3 ec B3
        go_wp2_with (at_builtin; refine wpList_append_own _ rfl (.tmp 64) (.tmp 67) 22 rfl w.heap.size 3 i3 (.int .i64 0) 1 8 Tryd.underlying22 gi gz0 gz1 gz2 rfl (by decide) _ _ _ rfl (end4.alloc _) ⟨w4.heap.size, 0, none⟩ 1 1 _ rfl rfl news_at (one_int _) (by unfold maxLen; omega) (by omega) (by simp; omega) ?_)
        intro v5 w5 own5 g5 _
        have k5 : Only w.heap.size [3] w4 w5 := ((Only.refl w.heap.size [3] w4).alloc s4 _).own (end4.alloc _) g5 (by simp; omega) (Nat.le_refl _) (by simp)
        have O5 := hide ((unhide O4).only k5 (by decide))
        have B5 := hide ((unhide B4).trans k5.below)
        have E5 := hide own5
        clear own5 g5 k5 end4 O4 B4
        go_wp2
        go_roundg (n - (k + 1))
        case measure => have := unhide HG; omega
        case rel =>
          refine ⟨k + 1, by omega, by omega, rfl, by go_num, unhide O5, ?_, unhide B5, ?_⟩
          · have h := unhide E5
            rw [endsOf_succ, unhide EC]
            simpa using h
          · intro j hj
            by_cases hjk : j < k
            · exact unhide HA j hjk
            · obtain rfl : j = k := by omega
              rw [unhide HXK]; omega
    · obtain ⟨aob, capb, rfl, hcb, _, byb, hnb, _⟩ := (unhide OW).slice
      obtain ⟨aoe, cape, rfl, hce⟩ := row_shape (unhide EN)
      have bl : k * 308 ≤ 3696 := by omega
      obtain ⟨c, hc⟩ : ∃ c : Nat, cut % (((cat xs k).length : Nat) + 1 : Int) = (c : Int) := ⟨(cut % (((cat xs k).length : Nat) + 1 : Int)).toNat, by have := Int.emod_nonneg cut (show (((cat xs k).length : Nat) + 1 : Int) ≠ 0 by omega); omega⟩
      have hcl2 : c ≤ (cat xs k).length := by have := Int.emod_lt_of_pos cut (show (0 : Int) < ((cat xs k).length : Nat) + 1 by omega); omega
      obtain ⟨K, hK1, hK2, hK3⟩ := count_whole xs c k
      have es := split_cat (unhide HX) (by rw [unhide HN]; exact hkn) (unhide HA) hK1 hK2 hcl2 hK3
      have ES := hide es
      have HC := hide hc
      have BY := hide (byb.take c)
      have HCE := hide hce
      have HK3 := hide hK3
      have HNB := hide hnb
      have S0 := hide ((unhide HS).below (unhide BEL))
      have LT : Hid (((cat xs k).take c).length = c) := by show _ = _; rw [List.length_take]; omega
      clear es hc byb hce hK3 hnb OW EN HA HG
      have hout : (k < n ∧ ¬ k < 12) ∨ ¬ k < n := by omega
      rcases hout with ⟨o1, o2⟩ | o1
      all_goals
        cases aob
        all_goals
          have hnb' := unhide HNB
          simp only [forall_const, reduceCtorEq, false_implies] at hnb'
          go_wp2_with fail
          refine (within_any cut (((cat xs k).length : Nat) + 1 : Int) wr (by omega) (by omega)).mono ?_
          rintro e wq ⟨rfl, rfl⟩
          rw [unhide HC]
          go_wp2_with fail
          refine (split_len _ c _ ((cat xs k).take c) (unhide LT) _ (unhide BY) (by omega) (by omega) (unhide S0)).mono ?_
          rintro e w5 ⟨fv, vs, rfl, hof, hrf, hb5⟩
          rw [unhide ES] at hrf ⊢
          have hvl : vs.length = K := by have := hrf.1; rw [List.length_take, unhide HN] at this; omega
          obtain ⟨aof, capf, rfl, hcf⟩ := row_shape hof
          rw [hvl] at hcf ⊢
          have HCF := hide hcf
          have HRF := hide hrf
          have B5 := hide ((unhide BEL).trans (hb5.mono hsz))
          have HB5 := hide hb5
          have HVL := hide hvl
          clear hcf hrf hb5 hof hvl
          go_wp2_with fail
          go_loop [15] (fun jv => ∃ j : Nat, j ≤ K ∧ jv = .int .i64 j) (fun jv => K - (intOf jv).toNat)
          case atStart => exact ⟨0, Nat.zero_le _, rfl⟩
          case round =>
            obtain ⟨j, hj, rfl⟩ := hrel
            by_cases hjK : j < K
            · obtain ⟨ge, rfl, hcell⟩ := (unhide HCE) j (by omega)
              rw [endsOf_get xs k j (by omega)] at hcell
              have hcell5 := hcell
              rw [← (unhide HB5).cell (blk_lt hcell)] at hcell5
              have hle := Nat.le_trans (cat_le xs (show j + 1 ≤ K by omega)) hK2
              clear hcell
              generalize (cat xs (j + 1)).length = t at *
              go_wp2
              go_round
              case rel => exact ⟨j + 1, by omega, by go_num⟩
              case measure => simp [intOf]; omega
            · have ej : K = j := by omega
              subst ej
              have hpr : K = 0 ∨ ∃ ge, 0 < K ∧ aoe = some ⟨ge, 0, none⟩ ∧ w5.cell? ⟨ge, K - 1, none⟩ = some (.int .i64 (((cat xs K).length : Nat) : Int)) := by
                by_cases h0 : K = 0
                · exact Or.inl h0
                · right
                  obtain ⟨ge, e1, hcell⟩ := (unhide HCE) (K - 1) (by omega)
                  rw [endsOf_get xs k (K - 1) (by omega), Nat.sub_add_cancel (by omega)] at hcell
                  exact ⟨ge, by omega, e1, by rw [(unhide HB5).cell (blk_lt hcell)]; exact hcell⟩
              have hne : K = k ∨ (K < k ∧ ∃ ge t, aoe = some ⟨ge, 0, none⟩ ∧ w5.cell? ⟨ge, K, none⟩ = some (.int .i64 ((t : Nat) : Int)) ∧ c < t) := by
                by_cases h0 : K = k
                · exact Or.inl h0
                · right
                  obtain ⟨ge, e1, hcell⟩ := (unhide HCE) K (by omega)
                  rw [endsOf_get xs k K (by omega)] at hcell
                  refine ⟨by omega, ge, _, e1, by rw [(unhide HB5).cell (blk_lt hcell)]; exact hcell, ?_⟩
                  rcases unhide HK3 with h | h
                  · omega
                  · exact h
              have HPR := hide hpr
              clear hpr hjK hj
              rcases hne with rfl | ⟨hKk, ge, t, rfl, hct, hlt⟩
              all_goals
                rcases unhide HPR with hK0 | ⟨ge', hK0, eg, hcp⟩
                · subst hK0
                  have hz : (cat xs 0).length = 0 := rfl
                  go_wp2_with fail
                  refine wp_loop_rounds 1 ?_
                  rw [rounds_succ]
                  go_wp2
                  go_ret
                  exact ⟨rfl, unhide B5⟩
                · first
                    | subst eg
                    | (simp only [Option.some.injEq, Addr.mk.injEq, and_true] at eg; subst eg)
                  go_wp2_with fail
                  go_loopw [16] (fun iv wr' => ∃ i : Nat, i ≤ K ∧ iv = .int .i64 i ∧ Below w5.heap.size w5 wr') (fun iv _ => K - (intOf iv).toNat)
                  case atStart => exact ⟨0, Nat.zero_le _, rfl, Below.refl _ _⟩
                  case round =>
                    obtain ⟨i, hiK, rfl, hb6⟩ := hrel
                    have B6 := hide hb6
                    clear hb6
                    by_cases hlt6 : i < K
                    · obtain ⟨gf, rfl, hcf⟩ := (unhide HCF) i hlt6
                      obtain ⟨vi, hvi⟩ : ∃ vi, vs[i]? = some vi := ⟨_, List.getElem?_eq_getElem (by rw [unhide HVL]; exact hlt6)⟩
                      have hxi : (xs.take K)[i]? = some (xs.getD i []) := by
                        rw [List.getElem?_take_of_lt hlt6, List.getD_eq_getElem?_getD, List.getElem?_eq_getElem (by rw [unhide HN]; omega)]; rfl
                      obtain ⟨aoi, capi, rfl, _, _, byi, _⟩ := (((unhide HRF).2 i vi _ hvi hxi).below (unhide B6)).slice
                      have hci : wr.cell? ⟨gf, i, none⟩ = some (.slice aoi (xs.getD i []).length capi) := by
                        rw [(unhide B6).cell (blk_lt (hcf.trans hvi)), hcf]; exact hvi
                      obtain ⟨a, r, cp, rfl, hcell, hby, _, _⟩ := ((unhide HR).below ((unhide B5).trans ((unhide B6).mono (unhide B5).size))) i (by rw [unhide HN]; omega)
                      have c1 := fun q => conv_str (cap := capi) (byi.below (drewN_below wr q)) rfl
                      have c2 := fun q => conv_str (cap := cp) (hby.below (drewN_below wr q)) rfl
                      have q1 : (i : Int) < K := by omega
                      have q2 : (i : Int) < n := by omega
                      clear hcf hvi hxi byi hby
                      generalize str (xs.getD i []) = sx at *
                      generalize (xs.getD i []).length = li at *
                      go_wp2_with fail
                      go_quiet (fail)
                      go_wp2
                      go_roundw
                      case rel => exact ⟨i + 1, by omega, by go_num, (unhide B6).trans ((drewN_below _ _).mono (unhide B6).size)⟩
                      case measure => simp [intOf]; omega
                    · go_wp2
                      go_ret
                      exact ⟨rfl, (unhide B5).trans ((unhide B6).mono (unhide B5).size)⟩
end Go.Proofs.YtfccflgbljklaaaDoor
