/- TallyHalf: the walk. -/
import Derived.Test.YtjcidihcmbenhaaYRow
import Derived.Test.YtjcidihcmbenhaaYWithin
import Derived.Test.YtjcidihcmbenhaaKRefC
namespace Go.Proofs.Ytjcidihcmbenhaa
open Go.RowKit Go.Maps

/-- the law's own marks. -/
def valOf (ys : List Int) (j : Nat) : Int := if j < ys.length then ys.getD j 0 % 1000 else 0
def mksOf (ps ys : List Int) (k : Nat) : List (Int × Int) := (List.range k).map fun j => (ps.getD j 0, valOf ys j)
theorem mks_succ (ps ys : List Int) (k : Nat) : mksOf ps ys (k + 1) = mksOf ps ys k ++ [(ps.getD k 0, valOf ys k)] := by
  unfold mksOf; rw [List.range_succ, List.map_append]; rfl
theorem mks_len (ps ys : List Int) (k : Nat) : (mksOf ps ys k).length = k := by unfold mksOf; simp
theorem val_range (ys : List Int) (j : Nat) : 0 ≤ valOf ys j ∧ valOf ys j < 1000 := by
  unfold valOf; split
  · have h1 := Int.emod_nonneg (ys.getD j 0) (show (1000 : Int) ≠ 0 by omega)
    have h2 := Int.emod_lt_of_pos (ys.getD j 0) (show (0 : Int) < 1000 by omega)
    exact ⟨h1, h2⟩
  · omega
theorem mks_val {ps ys : List Int} {k : Nat} {m : Int × Int} (h : m ∈ mksOf ps ys k) : 0 ≤ m.2 ∧ m.2 < 1000 := by
  unfold mksOf at h
  obtain ⟨j, _, rfl⟩ := List.mem_map.1 h
  exact val_range ys j
theorem mks_fst (ps ys : List Int) : (mksOf ps ys ps.length).map (·.1) = ps := by
  unfold mksOf
  rw [List.map_map]
  apply List.ext_getElem
  · simp
  · intro i h1 h2
    simp only [List.getElem_map, List.getElem_range, Function.comp]
    rw [List.getD_eq_getElem?_getD, List.getElem?_eq_getElem h2]; rfl
theorem fold_none (id : Int) : ∀ (ms : List (Int × Int)) (a : Int), (∀ m ∈ ms, m.1 ≠ id) → ms.foldl (fun a m => if m.1 = id then m.2 else a) a = a
  | [], a, _ => rfl
  | m :: ms, a, h => by
    rw [List.foldl_cons, if_neg (h m (by simp))]
    exact fold_none id ms a (fun m' hm' => h m' (List.mem_cons_of_mem _ hm'))
theorem fold_mem : ∀ (ms : List (Int × Int)) (a : Int), (ms.map (·.1)).Pairwise (· < ·) → ∀ m ∈ ms, ms.foldl (fun a m' => if m'.1 = m.1 then m'.2 else a) a = m.2
  | [], a, _, m, h => by cases h
  | x :: ms, a, hp, m, h => by
    rw [List.map_cons, List.pairwise_cons] at hp
    rw [List.foldl_cons]
    rcases List.mem_cons.1 h with rfl | h
    · rw [if_pos rfl]
      exact fold_none m.1 ms m.2 (fun m' hm' => by have := hp.1 m'.1 (List.mem_map.2 ⟨m', hm', rfl⟩); omega)
    · exact fold_mem ms _ hp.2 m h
theorem last_own {ms : List (Int × Int)} (hp : (ms.map (·.1)).Pairwise (· < ·)) {m : Int × Int} (h : m ∈ ms) : lastOf ms m.1 = m.2 := fold_mem ms 0 hp m h
theorem half_count {ms : List (Int × Int)} {ps : List Int} (hf : ms.map (·.1) = ps) (hp : ps.Pairwise (· < ·)) (x : Int) : qAt [] ps ms x = decide (ms.length < 2 * ms.countP fun m => decide (x ≤ m.2)) := by
  unfold qAt quorumBy halfBy
  have e : ps.countP (fun id => decide (x ≤ lastOf ms id)) = ms.countP (fun m => decide (x ≤ m.2)) := by
    rw [← hf, List.countP_map]
    apply List.countP_congr
    intro m hm
    show (decide (x ≤ lastOf ms m.1) = true) ↔ _
    rw [last_own (by rw [hf]; exact hp) hm]
  rw [e, ← hf, List.length_map]; simp
theorem half_says {ms : List (Int × Int)} {ps : List Int} {r : Int} (hf : ms.map (·.1) = ps) (hp : ps.Pairwise (· < ·)) (hv : ∀ m ∈ ms, 0 ≤ m.2) (hne : ms ≠ []) (h : ReachIs [] ps ms r) :
    ms.length < 2 * (ms.countP fun m => decide (r ≤ m.2)) ∧ 2 * (ms.countP fun m => decide (r < m.2)) ≤ ms.length := by
  constructor
  · by_cases h0 : 0 < r
    · have := h.2.1 h0
      rw [half_count hf hp, decide_eq_true_eq] at this; exact this
    · have e : ms.countP (fun m => decide (r ≤ m.2)) = ms.length := by
        rw [List.countP_eq_length]; intro m hm; rw [decide_eq_true_eq]; have := hv m hm; omega
      have := List.length_pos_iff.2 hne
      rw [e]; omega
  · have := h.2.2 (r + 1) (by omega)
    rw [half_count hf hp, decide_eq_false_iff_not] at this
    have e : ms.countP (fun m => decide (r + 1 ≤ m.2)) = ms.countP (fun m => decide (r < m.2)) := by
      apply List.countP_congr; intro m _; rw [decide_eq_true_eq, decide_eq_true_eq]; omega
    rw [e] at this; omega
theorem cnt2_yes {ms : List (Int × Int)} {p : Int × Int → Bool} {k C : Nat} (h : k < ms.length) (hC : (ms.take k).countP p = C) (hy : p (ms.getD k (0, 0)) = true) : (ms.take (k + 1)).countP p = C + 1 := by
  rw [take_succ ms (0, 0) k h, List.countP_append, hC, List.countP_cons_of_pos hy]; rfl
theorem cnt2_no {ms : List (Int × Int)} {p : Int × Int → Bool} {k C : Nat} (h : k < ms.length) (hC : (ms.take k).countP p = C) (hy : p (ms.getD k (0, 0)) = false) : (ms.take (k + 1)).countP p = C := by
  rw [take_succ ms (0, 0) k h, List.countP_append, hC, List.countP_cons_of_neg (by rw [hy]; exact Bool.false_ne_true)]; rfl

set_option maxRecDepth 20000 in
set_option maxHeartbeats 8000000 in
theorem half_walk (bits : Int) (ay : Option Addr) (ny cy : Nat) (ys : List Int) (hy : ys.length = ny) (hmax : ny ≤ maxLen) (w : World) (hY : IntsR w ay ys) :
    Calls Try.prog 7 #[.int .i64 bits, .slice ay ny cy] w fun e w' => e = .returned (.bool true) ∧ Below w.heap.size w w' := by
  have hmm' : ny ≤ 9223372036854775807 := hmax
  have KN := hide (known_any w)
  have HY := hide hY
  have EY := hide hy
  clear hY hy hmax
  go_enter Try.func7, Try.ntmps7
  go_wp2_with fail
  refine (unhide KN).mono ?_
  rintro e w1 ⟨rfl, b1⟩
  have B1 := hide b1
  have GO := hide (plain_any bits w1)
  clear b1 KN
  go_wp2_with fail
  refine (unhide GO).mono ?_
  rintro e w2 ⟨an, nn, cn, rfl, enn, -, fn, b2⟩
  obtain ⟨ps, hps⟩ : ∃ ps, plainOf (bitOf bits) = ps := ⟨_, rfl⟩
  have UN : Hid (Up ps ∧ ps.length ≤ 7 ∧ ps ≠ []) := by rw [← hps]; exact ⟨plain_Up _, plain_len _, plain_ne _⟩
  rw [hps] at enn fn
  obtain ⟨A0, hA0, bA0, xA0, -⟩ := boxed w2 (.slice none 0 0) (.slice an nn cn)
  have b12 := (unhide B1).trans (b2.mono (unhide B1).size)
  have HA0 := hide hA0
  have BA0 := hide (b12.trans (bA0.mono b12.size))
  have S0 := hide (fun (Y : World) (h : Below A0.heap.size A0 Y) => And.intro (two_cells (Below.stay h xA0)) (And.intro ((fn.below bA0).below h) (((unhide HY).below (unhide BA0)).below h)))
  have hnn7 : nn ≤ 7 := by rw [← enn]; exact (unhide UN).2.1
  have hnn1 : 1 ≤ nn := by rw [← enn]; exact List.length_pos_iff.2 (unhide UN).2.2
  have ENN := hide enn
  have RE := hide (fun (Y : World) (h : Below A0.heap.size A0 Y) (a' : Option Addr) (n' c' : Nat) (ms' : List (Int × Int)) (hn' : ms'.length = n') (hl' : n' ≤ 1000) (hw' : Wfs ms') (hY : MkR Y a' ms') =>
    reach_any none an 0 nn 0 cn [] ps rfl (unhide ENN) (by omega) (by omega) Up.nil (unhide UN).1 a' n' c' ms' hn' hl' hw' Y (IntsR.nil _ _) (unhide S0 Y h).2.1.1 hY)
  have CK := hide (fun (Y : World) (h : Below A0.heap.size A0 Y) => rcheck_any none an 0 nn 0 cn [] ps rfl (unhide ENN) (by omega) (by omega) Y (IntsR.nil _ _) (unhide S0 Y h).2.1.1)
  rw [check_good Up.nil (by simp) (unhide UN).1 (unhide UN).2.1 (unhide UN).2.2] at CK
  clear hps enn fn b2 b12 hA0 bA0 xA0 GO B1 HY
  go_upto_region 4 with fail
  rw [unhide HA0]
  clear HA0
  go_wp2_with fail
  go_loopw [7, 8, 6] (fun i _ s wr => ∃ (k : Nat), k ≤ nn ∧ i = .int .i64 k ∧ Mr 30 A0.heap.size wr s (mksOf ps ys k) ∧ Below A0.heap.size A0 wr) (fun i _ _ _ => nn - (intOf i).toNat)
  case atStart => exact ⟨0, Nat.zero_le _, rfl, Mr.nil _ _ _, Below.refl _ _⟩
  case round =>
    obtain ⟨k, hk, rfl, hown, hbel⟩ := hrel
    have BEL := hide hbel
    have HO := hide hown
    have sz := hbel.size
    obtain ⟨⟨c0, c1⟩, fn, fy⟩ := unhide S0 _ hbel
    have hml := mks_len ps ys k
    have MS := hide (mks_succ ps ys k)
    obtain ⟨msk, hmsk⟩ : ∃ msk, mksOf ps ys k = msk := ⟨_, rfl⟩
    by_cases hlt : k < nn
    · rw [hmsk] at HO MS hml
      have HML := hide hml
      obtain ⟨a1, ha1, h1⟩ := fn.1 k (by rw [unhide ENN]; exact hlt)
      subst ha1
      have q : (k : Int) < nn := by omega
      obtain ⟨x, hx⟩ : ∃ x, ps.getD k 0 = x := ⟨_, rfl⟩
      rw [hx] at h1 MS
      obtain ⟨v, hv⟩ : ∃ v, valOf ys k = v := ⟨_, rfl⟩
      rw [hv] at MS
      clear hown hbel hmsk hx fn hml
      by_cases hky : k < ny
      · obtain ⟨a2, ha2, h2⟩ := fy k (by rw [unhide EY]; exact hky)
        subst ha2
        have q2 : (k : Int) < ny := by omega
        have WI := hide (within_any (ys.getD k 0) 1000 wr (by omega) (by omega))
        have hv2 : ys.getD k 0 % 1000 = v := by rw [← hv]; unfold valOf; rw [if_pos (by rw [unhide EY]; exact hky)]
        rw [hv2] at WI
        obtain ⟨z, hz⟩ : ∃ z, ys.getD k 0 = z := ⟨_, rfl⟩
        rw [hz] at h2 WI
        clear hv hv2 hz fy
        go_wp2_with fail
        refine (unhide WI).mono ?_
        rintro e wq ⟨rfl, hwq⟩
        replace hwq := hwq.symm
        subst hwq
        clear WI
        go_wp2_with (at_builtin; refine wpList_marks Try.underlying22 Try.infoM rfl (.tmp 33) (.tmp 41) rfl A0.heap.size _ msk [(x, v)] rfl ((unhide HO).below ((Below.refl _ _).alloc (Nat.le_refl _) _)) (some ⟨wr.heap.size, 0, none⟩) 1 1 rfl rfl (made_marks wr _ _ _ rfl) (by rw [unhide HML]; omega) (by simp; omega) ?_)
        intro v' w' own' g'
        have OWN := hide own'
        have B' := hide (((unhide HO).below ((Below.refl _ _).alloc (Nat.le_refl _) (.cells #[.int .i64 x, .int .i64 v] 30))).grown g' ((unhide BEL).alloc sz _) (by simp; omega))
        clear own' g'
        go_wp2
        go_roundw
        case rel => exact ⟨k + 1, by omega, by go_num, by rw [unhide MS]; exact unhide OWN, unhide B'⟩
        case measure => simp [intOf]; omega
      · have q2 : ¬ (k : Int) < ny := by omega
        have hv2 : v = 0 := by rw [← hv]; unfold valOf; rw [if_neg (by rw [unhide EY]; omega)]
        subst hv2
        clear hv fy
        go_wp2_with (at_builtin; refine wpList_marks Try.underlying22 Try.infoM rfl (.tmp 33) (.tmp 41) rfl A0.heap.size _ msk [(x, 0)] rfl ((unhide HO).below ((Below.refl _ _).alloc (Nat.le_refl _) _)) (some ⟨wr.heap.size, 0, none⟩) 1 1 rfl rfl (made_marks wr _ _ _ rfl) (by rw [unhide HML]; omega) (by simp; omega) ?_)
        intro v' w' own' g'
        have OWN := hide own'
        have B' := hide (((unhide HO).below ((Below.refl _ _).alloc (Nat.le_refl _) (.cells #[.int .i64 x, .int .i64 0] 30))).grown g' ((unhide BEL).alloc sz _) (by simp; omega))
        clear own' g'
        go_wp2
        go_roundw
        case rel => exact ⟨k + 1, by omega, by go_num, by rw [unhide MS]; exact unhide OWN, unhide B'⟩
        case measure => simp [intOf]; omega
    · obtain rfl : k = nn := by omega
      clear hml MS
      obtain ⟨al, cl, rfl, hM, -, -⟩ := hown.slice
      rw [mks_len]
      have ML := mks_len ps ys k
      have RR := hide (unhide RE wr hbel al k cl (mksOf ps ys k) ML (by omega) (fun m hm => by
        refine ⟨?_, ?_⟩
        · have hf := mks_fst ps ys
          rw [unhide ENN] at hf
          have : m.1 ∈ ps := by rw [← hf]; exact List.mem_map.2 ⟨m, hm, rfl⟩
          have := (unhide UN).1.2 _ this
          exact wf_range (by omega)
        · have := mks_val hm; exact wf_range (by omega)) hM)
      have HS := hide (fun r (h : ReachIs [] ps (mksOf ps ys k) r) => half_says (by have := mks_fst ps ys; rw [unhide ENN] at this; exact this) (unhide UN).1.1 (fun m hm => (mks_val hm).1) (by intro e; rw [e] at ML; simp at ML; omega) h)
      obtain ⟨ms, hms⟩ : ∃ ms, mksOf ps ys k = ms := ⟨_, rfl⟩
      rw [hms] at RR HS ML hM
      have HML := hide ML
      have HM := hide hM
      obtain ⟨wq, hwq⟩ : ∃ wq, wq = wr := ⟨_, rfl⟩
      subst hwq
      clear hown hbel hmsk hms ML hM fn fy RE HO
      go_upto_region 12 with fail
      clear hlt
      go_wp2_with fail
      refine (unhide RR).mono ?_
      rintro e w4 ⟨r, rfl, hr, b4⟩
      have E4 := hide ((unhide BEL).trans (b4.mono sz))
      have M4 := hide ((unhide HM).below b4)
      obtain ⟨hs1, hs2⟩ := unhide HS r hr
      have HS1 := hide hs1
      have HS2 := hide hs2
      clear b4 hr hs1 hs2 RR HS HM c0 c1
      go_wp2_with fail
      go_loopw [12, 10, 11] (fun i s t wr => ∃ (j C D : Nat), j ≤ k ∧ i = .int .i64 j ∧ s = .int .i64 C ∧ t = .int .i64 D ∧ (ms.take j).countP (fun m => decide (r ≤ m.2)) = C ∧ (ms.take j).countP (fun m => decide (r < m.2)) = D ∧ C ≤ j ∧ D ≤ j ∧ wr = w4) (fun i _ _ _ => k - (intOf i).toNat)
      case atStart => exact ⟨0, 0, 0, Nat.zero_le _, rfl, rfl, rfl, by simp, by simp, Nat.le_refl _, Nat.le_refl _, rfl⟩
      case round =>
        obtain ⟨j, C, D, hj, rfl, rfl, rfl, hC, hD, hCj, hDj, hwr⟩ := hrel
        subst hwr
        have HC := hide hC
        have HD := hide hD
        clear hC hD
        by_cases hlj : j < k
        · have hjl : j < ms.length := by rw [unhide HML]; exact hlj
          obtain ⟨g, off, hg, d1, d2⟩ := unhide M4 j hjl
          subst hg
          have q : (j : Int) < k := by omega
          have Y1 := hide (cnt2_yes (p := fun m => decide (r ≤ m.2)) hjl (unhide HC))
          have N1 := hide (cnt2_no (p := fun m => decide (r ≤ m.2)) hjl (unhide HC))
          have Y2 := hide (cnt2_yes (p := fun m => decide (r < m.2)) hjl (unhide HD))
          have N2 := hide (cnt2_no (p := fun m => decide (r < m.2)) hjl (unhide HD))
          obtain ⟨⟨x, v⟩, hxk⟩ : ∃ p, ms.getD j (0, 0) = p := ⟨_, rfl⟩
          rw [hxk] at d1 d2 Y1 N1 Y2 N2
          clear hxk hjl d1
          by_cases h1 : r ≤ v
          · have F1 := hide (unhide Y1 (decide_eq_true h1))
            by_cases h2 : r < v
            · have F2 := hide (unhide Y2 (decide_eq_true h2))
              clear Y1 N1 Y2 N2
              go_wp2
              go_roundw
              case rel => exact ⟨j + 1, C + 1, D + 1, by omega, by go_num, by go_num, by go_num, unhide F1, unhide F2, by omega, by omega, trivial⟩
              case measure => simp [intOf]; omega
            · have F2 := hide (unhide N2 (decide_eq_false h2))
              clear Y1 N1 Y2 N2
              go_wp2
              go_roundw
              case rel => exact ⟨j + 1, C + 1, D, by omega, by go_num, by go_num, rfl, unhide F1, unhide F2, by omega, by omega, trivial⟩
              case measure => simp [intOf]; omega
          · have F1 := hide (unhide N1 (decide_eq_false h1))
            have F2 := hide (unhide N2 (decide_eq_false (by omega)))
            have h2 : ¬ r < v := by omega
            clear Y1 N1 Y2 N2
            go_wp2
            go_roundw
            case rel => exact ⟨j + 1, C, D, by omega, by go_num, rfl, rfl, unhide F1, unhide F2, by omega, by omega, trivial⟩
            case measure => simp [intOf]; omega
        · obtain rfl : j = k := by omega
          have et : ms.take j = ms := by rw [← unhide HML, List.take_length]
          rw [et] at HC HD
          have g1 := unhide HS1
          have g2 := unhide HS2
          rw [unhide HML, unhide HC] at g1
          rw [unhide HML, unhide HD] at g2
          have h1 : (j : Int) < 2 * (C : Int) := by omega
          have h2 : 2 * (D : Int) ≤ (j : Int) := by omega
          have wrC : IntKind.i64.wrap (2 * (C : Int)) = 2 * (C : Int) := IntWalk.i64_in _ (by omega)
          have wrD : IntKind.i64.wrap (2 * (D : Int)) = 2 * (D : Int) := IntWalk.i64_in _ (by omega)
          obtain ⟨⟨c0, c1⟩, -, -⟩ := unhide S0 _ (unhide E4)
          have CK2 := hide (unhide CK _ (unhide E4))
          clear et g1 g2 CK
          go_wp2_with fail
          refine (unhide CK2).mono ?_
          rintro e w6 ⟨rfl, b6⟩
          have E6 := hide ((unhide E4).trans (b6.mono (unhide E4).size))
          clear b6 CK2
          go_wp2
          go_ret
          exact ⟨rfl, (unhide BA0).trans ((unhide E6).mono (unhide BA0).size)⟩
end Go.Proofs.Ytjcidihcmbenhaa
