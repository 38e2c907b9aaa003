/- TallyReach: the walk. -/
import Derived.Test.YtjcidihcmbenhaaYRRef
import Derived.Test.YtjcidihcmbenhaaKGood
import Derived.Deep.RegionHeldLaw
namespace Go.Proofs.Ytjcidihcmbenhaa
open Go.RowKit Go.Maps

theorem step_on {w : World} {ops : Array Oper} {o : Oper} {a : Act} {K : Act → World → Prop} {Q : Exit → Act → World → Prop} {E : Prop} (hg : o.guard = none) (h : Oper.wp Try.prog o a w K Q) :
    if Region.wanted o (yielded ops a.tmps) = true then Oper.wp Try.prog o a w K Q else E := by
  have hw : Region.wanted o (yielded ops a.tmps) = true := by simp [Region.wanted, hg]
  rw [if_pos hw]; exact h
/-- append to one of two rows that lie apart. -/
def Two (base : Nat) (w : World) (u v : Value) (xs ys : List Int) : Prop := Ir base w u xs ∧ Ir base w v ys ∧ ∀ k, u.ownBlock = some k → v.ownBlock ≠ some k
theorem Two.nil (base : Nat) (w : World) : Two base w (.slice none 0 0) (.slice none 0 0) [] [] := ⟨Ir.nil _ _, Ir.nil _ _, fun k h => by simp [Value.ownBlock] at h⟩
theorem Two.below {base : Nat} {w w' : World} {u v : Value} {xs ys : List Int} (h : Two base w u v xs ys) (hb : Below w.heap.size w w') : Two base w' u v xs ys := ⟨h.1.below hb, h.2.1.below hb, h.2.2⟩
theorem Two.swap {base : Nat} {w : World} {u v : Value} {xs ys : List Int} (h : Two base w u v xs ys) : Two base w v u ys xs := ⟨h.2.1, h.1, fun k hv hu => h.2.2 k hu hv⟩
theorem wpList_app2 {w : World} {ops : Array Oper} {rest : List Oper} {o : Oper} {a : Act} {Q : Exit → Act → World → Prop} (hgd : o.guard = none) (s x : Operand)
    (ho : o.op = .call { callee := .builtin .append, args := #[s, x], argTypes := #[24, 24] }) (base : Nat) (u v : Value) (xs ys : List Int) (hs : a.eval s = u) (h2 : Two base w u v xs ys)
    (ad : Addr) (y : Int) (hx : a.eval x = .slice (some ad) 1 1) (hy : IntsR w (some ad) [y]) (hl : xs.length + 1 ≤ 1000000) (hb : base ≤ w.heap.size)
    (h : ∀ u' w', Two base w' u' v (xs ++ [y]) ys → w.grownBy w' u.ownBlock → wpList Try.prog ops Q rest (a.put o.dst u') w') : wpList Try.prog ops Q (o :: rest) a w := by
  obtain ⟨i0, hi0, hz0, hz1, hz2⟩ := info_parts Try.infoI
  refine wpList_plain hgd fun K hK => ?_
  obtain ⟨u', w', hr, o', g', _, hat⟩ := run_append_own_at (P := Try.prog) w base 24 o.type 3 i0 _ 1 8 Try.underlying24 hi0 hz0 hz1 hz2 rfl (by decide) u xs.length (i64s xs) h2.1 ad 1 1 (i64s [y]) rfl
    (fun j z hj => by
      match j, hj with
      | 0, hj =>
        simp [i64s] at hj; subst hj
        obtain ⟨a', e, hc⟩ := hy 0 (by simp)
        cases e; exact hc
      | j + 1, hj => simp [i64s] at hj) (i64s_one [y]) (by unfold maxLen; omega) (by omega) hb
  unfold Oper.wp execOp
  simp only [ho, resolve, invoke, builtin, Sem.run_bind, Sem.run_pure, Result.andThen_ok, List.map_toArray, List.map_cons, List.map_nil, hs, hx, hr]
  refine hK _ _ (h u' w' ⟨?_, ?_, ?_⟩ g')
  · unfold Ir
    rw [List.length_append, i64s_append]; exact o'
  · exact own_kept h2.2.1 fun k hk => g'.block k (h2.2.1.lt k hk).2 (fun e => h2.2.2 k e.symm hk)
  · intro k hu hv
    rcases hat with e | e
    · rw [e] at hu; exact h2.2.2 k hu hv
    · rw [e] at hu; cases hu
      have := (h2.2.1.lt _ hv).2
      omega
theorem Two.grown {base : Nat} {a w w' : World} {u v : Value} {xs ys : List Int} (h : Two base w u v xs ys) (hg : w.grownBy w' u.ownBlock) (hb : Below base a w) (hbb : base ≤ w.heap.size) : Below base a w' := h.1.grown hg hb hbb
def bgt (ms : List (Int × Int)) (x : Int) (j : Nat) : Bool := bet ms (x + 1) j

set_option maxRecDepth 20000 in
set_option maxHeartbeats 8000000 in
theorem reach_walk (old now : Int) (al : Option Addr) (n cl : Nat) (ms : List (Int × Int)) (hn : ms.length = n) (hmax : n ≤ maxLen) (hwf : Wfs ms) (w : World) (hL : MkR w al ms) :
    Calls Try.prog 3 #[.int .i64 old, .int .i64 now, .slice al n cl] w fun e w' => e = .returned (.bool true) ∧ Below w.heap.size w w' := by
  have hmm' : n ≤ 9223372036854775807 := hmax
  have KN := hide (known_any w)
  have HL := hide hL
  have EN := hide hn
  have WF := hide hwf
  clear hL hn hwf hmax
  go_enter Try.func3, Try.ntmps3
  go_wp2_with fail
  refine (unhide KN).mono ?_
  rintro e w1 ⟨rfl, b1⟩
  have B1 := hide b1
  have GO := hide (good_any old now w1)
  clear b1 KN
  by_cases h1 : (40 : Int) < n
  · go_wp2
    go_ret
    exact ⟨rfl, unhide B1⟩
  have hn40 : n ≤ 40 := by omega
  go_wp2_with fail
  refine (unhide GO).mono ?_
  rintro e w2 ⟨v2, rfl, ⟨ao, no, co, an, nn, cn, rfl, eno, -, fo, enn, hcn, fn⟩, b2⟩
  obtain ⟨os, hos⟩ : ∃ os, lst (bitOf old) 9 = os := ⟨_, rfl⟩
  obtain ⟨ns, hns⟩ : ∃ ns, plainOf (bitOf now) = ns := ⟨_, rfl⟩
  have UO : Hid (Up os ∧ os.length ≤ 7) := by rw [← hos]; exact ⟨lst_Up _, lst_len _⟩
  have UN : Hid (Up ns ∧ ns.length ≤ 7) := by rw [← hns]; exact ⟨plain_Up _, plain_len _⟩
  rw [hos] at eno fo
  rw [hns] at enn fn
  obtain ⟨A0, hA0, bA0, xA0, -⟩ := boxed w2 (.slice ao no co) (.slice an nn cn)
  have b12 := (unhide B1).trans (b2.mono (unhide B1).size)
  have HA0 := hide hA0
  have BA0 := hide (b12.trans (bA0.mono b12.size))
  have S0 := hide (fun (Y : World) (h : Below A0.heap.size A0 Y) => And.intro (two_cells (Below.stay h xA0)) (And.intro ((fo.below bA0).below h) ((fn.below bA0).below h)))
  have hno7 : no ≤ 7 := by rw [← eno]; exact (unhide UO).2
  have hnn7 : nn ≤ 7 := by rw [← enn]; exact (unhide UN).2
  have ENO := hide eno
  have ENN := hide enn
  have LL := hide (fun (Y : World) (h : Below A0.heap.size A0 Y) => ((unhide HL).below (unhide BA0)).below h)
  have RE := hide (fun (Y : World) (h : Below A0.heap.size A0 Y) => reach_any ao an no nn co cn os ns (unhide ENO) (unhide ENN) (by omega) (by omega) (unhide UO).1 (unhide UN).1 al n cl ms (unhide EN) (by omega) (unhide WF) Y (unhide S0 Y h).2.1.1 (unhide S0 Y h).2.2.1 (unhide LL Y h))
  have RR := hide (fun (Y : World) (h : Below A0.heap.size A0 Y) (a' : Option Addr) (c' : Nat) (hY : MkR Y a' ms) => rreach_any ao an no nn co cn os ns (unhide ENO) (unhide ENN) (by omega) (by omega) (unhide UO).1 (unhide UN).1 a' n c' ms (unhide EN) (by omega) Y (unhide S0 Y h).2.1.1 (unhide S0 Y h).2.2.1 hY)
  have QU := hide (fun (Y : World) (h : Below A0.heap.size A0 Y) (ay : Option Addr) (m d : Nat) (ys : List Int) (hm : ys.length = m) (hm9 : m ≤ 9) (hy : IntsR Y ay ys) => rquorum_any ao an no nn co cn os ns (unhide ENO) (unhide ENN) ay m d ys hm (by omega) (by omega) (by omega) Y (unhide S0 Y h).2.1.1 (unhide S0 Y h).2.2.1 hy)
  have AQ := hide (all_qAt (unhide UO).1 (unhide UN).1 ms)
  clear hos hns eno enn fo fn b2 b12 hA0 bA0 xA0 GO B1
  go_upto_region 6 with fail
  rw [unhide HA0]
  clear HA0
  go_wp2_with fail
  go_loopw [9, 8] (fun i s wr => ∃ (k : Nat), k ≤ n ∧ i = .int .i64 k ∧ Mr 31 A0.heap.size wr s (ms.take k) ∧ Below A0.heap.size A0 wr) (fun i _ _ => n - (intOf i).toNat)
  case atStart => exact ⟨0, Nat.zero_le _, rfl, by rw [List.take_zero]; exact Mr.nil _ _ _, Below.refl _ _⟩
  case round =>
    obtain ⟨k, hk, rfl, hown, hbel⟩ := hrel
    have BEL := hide hbel
    have HO := hide hown
    have sz := hbel.size
    by_cases hlt : k < n
    · have hkl : k < ms.length := by rw [unhide EN]; exact hlt
      have L0 := hide (fun (Y : World) (h : Below A0.heap.size A0 Y) => unhide LL Y h k hkl)
      obtain ⟨g, off, hg, d1, d2⟩ := unhide LL _ hbel k hkl
      subst hg
      have q : (k : Int) < n := by omega
      have TS := hide (take_succ ms (0, 0) k hkl)
      have hlen : (ms.take k).length = k := by rw [List.length_take]; omega
      obtain ⟨⟨x, v⟩, hxk⟩ : ∃ p, ms.getD k (0, 0) = p := ⟨_, rfl⟩
      rw [hxk] at d1 d2 TS
      have SX := hide (fun (Y : World) (h : Below A0.heap.size A0 Y) => show Y.cell? ⟨g, off + k * 2, none⟩ = some (.int .i64 x) ∧ Y.cell? ⟨g, off + k * 2 + 1, none⟩ = some (.int .i64 v) from by
        obtain ⟨g', off', hg', d1', d2'⟩ := unhide L0 Y h
        cases hg'
        rw [hxk] at d1' d2'
        exact ⟨d1', d2'⟩)
      obtain ⟨l, hll⟩ : ∃ l, ms.take k = l := ⟨_, rfl⟩
      rw [hll] at HO TS hlen
      have HLN : Hid (l.length + 1 ≤ 1000000) := by show _ ≤ _; omega
      have EZ := hide hbel.drew
      clear hown hbel hxk hkl L0 hll hlen d1 d2
      go_upto_region 10 with fail
      first
      | (go_region_held_law (fun Y => Y.cell? ⟨g, off + k * 2, none⟩ = some (.int .i64 x) ∧ Y.cell? ⟨g, off + k * 2 + 1, none⟩ = some (.int .i64 v))
          (first | exact unhide SX _ (unhide EZ) | exact unhide SX _ ((unhide EZ).alloc (unhide EZ).size _))
          (first
            | (refine step_on rfl ?_
               refine wp_marks Try.underlying28 Try.infoRM (.tmp 30) (.tmp 42) rfl A0.heap.size _ l [(x, v)] rfl ((unhide HO).below (((Below.refl _ wr).drew).alloc (Nat.le_refl _) _)) (some ⟨wr.heap.size, 0, none⟩) 1 1 rfl rfl (made_marks wr.drew _ _ _ rfl) (unhide HLN) (Nat.le_trans sz (((Below.refl wr.heap.size wr).drew).alloc (Nat.le_refl _) _).size) ?_
               intro v' w' own' g'
               have OWN := hide own'
               have B' := hide (((unhide HO).below (((Below.refl _ wr).drew).alloc (Nat.le_refl _) (.cells #[.int .i64 x, .int .i64 v] 31))).grown g' ((unhide EZ).alloc (unhide EZ).size _) (Nat.le_trans sz (((Below.refl wr.heap.size wr).drew).alloc (Nat.le_refl _) _).size))
               clear EZ
               have EZ := B'
               clear own' g')))
      | fail
      go_wp2
      go_roundw
      case rel => exact ⟨k + 1, by omega, by go_num, by rw [unhide TS]; exact unhide OWN, unhide EZ⟩
      case measure => simp [intOf]; omega
    · obtain rfl : k = n := by omega
      have et : ms.take k = ms := by rw [← unhide EN, List.take_length]
      rw [et] at hown HO
      obtain ⟨a3, c3, rfl, hM, -, -⟩ := hown.slice
      rw [unhide EN]
      have HM := hide hM
      have RX := hide (unhide RE _ hbel)
      obtain ⟨⟨c0, c1⟩, -, -⟩ := unhide S0 _ hbel
      clear hown hbel hM et RE HO
      go_upto_region 11 with fail
      clear hlt
      go_wp2_with fail
      refine (unhide RX).mono ?_
      rintro e w3 ⟨r, rfl, hr, b3⟩
      have HR := hide hr
      have E3 := hide ((unhide BEL).trans (b3.mono sz))
      have RY := hide (unhide RR _ (unhide E3) a3 c3 ((unhide HM).below b3))
      obtain ⟨⟨d0, d1⟩, -, -⟩ := unhide S0 _ (unhide E3)
      clear hr b3 RX RR HM c0 c1
      go_wp2_with fail
      refine (unhide RY).mono ?_
      rintro e w4 ⟨r', rfl, hr', b4⟩
      obtain rfl : r = r' := (unhide HR).unique hr'
      have E4 := hide ((unhide E3).trans (b4.mono (unhide E3).size))
      have hself : (r != r) = false := by simp
      clear hr' b4 RY d0 d1
      by_cases hr0 : r = 0
      · subst hr0
        go_wp2
        go_ret
        exact ⟨rfl, (unhide BA0).trans ((unhide E4).mono (unhide BA0).size)⟩
      · have hr0' : (r == 0) = false := by rw [beq_eq_false_iff_ne]; exact hr0
        have Q1 : Hid (qAt os ns ms r = true) := (unhide HR).2.1 (by have := (unhide HR).1; omega)
        have Q2 : Hid (qAt os ns ms (r + 1) = false) := (unhide HR).2.2 (r + 1) (by omega)
        clear hr0
        go_wp2_with fail
        have s4 := (unhide E4).size
        go_loopw [13, 11, 12, 14, 15] (fun i s t _ _ wr => ∃ (d : Nat), d ≤ 9 ∧ i = .int .i64 d ∧ Two w4.heap.size wr s t (allOf (bet ms r) d) (allOf (bet ms (r + 1)) d) ∧ Below w4.heap.size w4 wr) (fun i _ _ _ _ _ => 9 - (intOf i).toNat)
        case atStart => exact ⟨0, Nat.zero_le _, rfl, Two.nil _ _, Below.refl _ _⟩
        case round =>
          obtain ⟨d, hd, rfl, htwo, hbel⟩ := hrel
          have hlen1 := (all_up (bet ms r) d).2.2
          have hlen2 := (all_up (bet ms (r + 1)) d).2.2
          have EW := hide ((unhide E4).trans (hbel.mono s4))
          have BK := hide hbel
          have HT := hide htwo
          have szd := hbel.size
          by_cases hd9 : d < 9
          · have q9 : (d : Int) < 9 := by omega
            obtain ⟨wd, hwd⟩ : ∃ wd, wd = wr := ⟨_, rfl⟩
            subst hwd
            clear htwo hbel
            go_wp2_with fail
            go_loopw [15, 14] (fun i s wr => ∃ (j : Nat) (A : Int), j ≤ k ∧ i = .int .i64 j ∧ s = .int .i64 A ∧ lastOf (ms.take j) (d : Int) = A ∧ wr = wd) (fun i _ _ => k - (intOf i).toNat)
            case atStart => exact ⟨0, 0, Nat.zero_le _, rfl, rfl, rfl, rfl⟩
            case round =>
              obtain ⟨j, A, hj, rfl, rfl, hA, hwr⟩ := hrel
              subst hwr
              have HA := hide hA
              clear hA
              by_cases hlj : j < k
              · have hjl : j < ms.length := by rw [unhide EN]; exact hlj
                obtain ⟨g2, off2, hg2, e1, e2⟩ := unhide LL _ (unhide EW) j hjl
                have qj : (j : Int) < k := by omega
                have Y1 := hide (lastT_yes hjl (unhide HA))
                have N1 := hide (lastT_no hjl (unhide HA))
                obtain ⟨⟨y1, y2⟩, hyk⟩ : ∃ p, ms.getD j (0, 0) = p := ⟨_, rfl⟩
                rw [hyk] at e1 e2 Y1 N1
                subst hg2
                clear hyk hjl
                by_cases hyd : y1 = (d : Int)
                · have F1 := hide (unhide Y1 hyd)
                  have hyd' : (y1 == (d : Int)) = true := by rw [beq_iff_eq]; exact hyd
                  clear Y1 N1 hyd
                  go_wp2
                  go_roundw
                  case rel => exact ⟨j + 1, y2, by omega, by go_num, rfl, unhide F1, trivial⟩
                  case measure => simp [intOf]; omega
                · have F1 := hide (unhide N1 hyd)
                  have hyd' : (y1 == (d : Int)) = false := by rw [beq_eq_false_iff_ne]; exact hyd
                  clear Y1 N1 hyd
                  go_wp2
                  go_roundw
                  case rel => exact ⟨j + 1, A, by omega, by go_num, rfl, unhide F1, trivial⟩
                  case measure => simp [intOf]; omega
              · obtain rfl : j = k := by omega
                have et : ms.take j = ms := by rw [← unhide EN, List.take_length]
                rw [et] at HA
                obtain ⟨l1, hl1⟩ : ∃ l1, allOf (bet ms r) d = l1 := ⟨_, rfl⟩
                obtain ⟨l2, hl2⟩ : ∃ l2, allOf (bet ms (r + 1)) d = l2 := ⟨_, rfl⟩
                have YES := hide (all_yes (β := bet ms r) (k := d))
                have NO := hide (all_no (β := bet ms r) (k := d))
                have YES2 := hide (all_yes (β := bet ms (r + 1)) (k := d))
                have NO2 := hide (all_no (β := bet ms (r + 1)) (k := d))
                rw [hl1] at HT YES NO hlen1
                rw [hl2] at HT YES2 NO2 hlen2
                have hbt : bet ms r d = decide (r ≤ A) := by unfold bet; rw [unhide HA]
                have hbt2 : bet ms (r + 1) d = decide (r + 1 ≤ A) := by unfold bet; rw [unhide HA]
                rw [hbt] at YES NO
                rw [hbt2] at YES2 NO2
                clear et hl1 hl2 hbt hbt2
                by_cases hxa : r ≤ A
                · have N1 := hide (unhide YES (decide_eq_true hxa))
                  by_cases hxb : r < A
                  · have N2 := hide (unhide YES2 (decide_eq_true (by omega)))
                    clear YES NO YES2 NO2
                    go_wp2_with (first
                      | (at_builtin
                         refine wpList_app2 rfl (.tmp 79) (.tmp 81) rfl w4.heap.size _ _ l1 l2 rfl ((unhide HT).below ((Below.refl _ _).alloc (Nat.le_refl _) _)) ⟨wr.heap.size, 0, none⟩ (d : Int) rfl (one_int _ _) (by omega) (by simp; omega) ?_
                         intro v5 w5 own5 g5
                         have T5 := hide own5
                         have B5 := hide (((unhide HT).below ((Below.refl _ _).alloc (Nat.le_refl _) (.cells #[.int .i64 (d : Int)] 3))).grown g5 ((unhide BK).alloc szd _) (by simp; omega))
                         clear own5 g5 HT)
                      | (at_builtin
                         refine wpList_app2 rfl (.tmp 86) (.tmp 88) rfl w4.heap.size _ _ l2 (l1 ++ [(d : Int)]) rfl ((unhide T5).below ((Below.refl _ _).alloc (Nat.le_refl _) _)).swap ⟨w5.heap.size, 0, none⟩ (d : Int) rfl (one_int _ _) (by omega) (by have := (unhide B5).size; simp; omega) ?_
                         intro v6 w6 own6 g6
                         have T6 := hide own6.swap
                         have B6 := hide (((unhide T5).below ((Below.refl _ _).alloc (Nat.le_refl _) (.cells #[.int .i64 (d : Int)] 3))).swap.grown g6 ((unhide B5).alloc (unhide B5).size _) (by have := (unhide B5).size; simp; omega))
                         clear own6 g6 T5))
                    go_roundw
                    case rel => exact ⟨d + 1, by omega, by go_num, by rw [unhide N1, unhide N2]; exact unhide T6, unhide B6⟩
                    case measure => simp [intOf]; omega
                  · have N2 := hide (unhide NO2 (decide_eq_false (by omega)))
                    clear YES NO YES2 NO2
                    go_wp2_with (first
                      | (at_builtin
                         refine wpList_app2 rfl (.tmp 79) (.tmp 81) rfl w4.heap.size _ _ l1 l2 rfl ((unhide HT).below ((Below.refl _ _).alloc (Nat.le_refl _) _)) ⟨wr.heap.size, 0, none⟩ (d : Int) rfl (one_int _ _) (by omega) (by simp; omega) ?_
                         intro v5 w5 own5 g5
                         have T5 := hide own5
                         have B5 := hide (((unhide HT).below ((Below.refl _ _).alloc (Nat.le_refl _) (.cells #[.int .i64 (d : Int)] 3))).grown g5 ((unhide BK).alloc szd _) (by simp; omega))
                         clear own5 g5 HT))
                    go_roundw
                    case rel => exact ⟨d + 1, by omega, by go_num, by rw [unhide N1, unhide N2]; exact unhide T5, unhide B5⟩
                    case measure => simp [intOf]; omega
                · have N1 := hide (unhide NO (decide_eq_false hxa))
                  have N2 := hide (unhide NO2 (decide_eq_false (by omega)))
                  have hxb : ¬ r < A := by omega
                  clear YES NO YES2 NO2
                  go_wp2
                  go_roundw
                  case rel => exact ⟨d + 1, by omega, by go_num, by rw [unhide N1, unhide N2]; exact unhide HT, unhide BK⟩
                  case measure => simp [intOf]; omega
          · obtain rfl : d = 9 := by omega
            have aq1 := unhide AQ r
            have aq2 := unhide AQ (r + 1)
            rw [unhide Q1] at aq1
            rw [unhide Q2] at aq2
            obtain ⟨a5, p5, rfl, f5, -, -⟩ := htwo.1.slice
            obtain ⟨a6, p6, rfl, f6, -, -⟩ := htwo.2.1.slice
            obtain ⟨m5, hm5⟩ : ∃ m5, (allOf (bet ms r) 9).length = m5 := ⟨_, rfl⟩
            obtain ⟨m6, hm6⟩ : ∃ m6, (allOf (bet ms (r + 1)) 9).length = m6 := ⟨_, rfl⟩
            have QA := hide (fun (Y : World) (h : Below wr.heap.size wr Y) => unhide QU Y ((unhide EW).trans (h.mono (unhide EW).size)) a5 m5 p5 _ hm5 (by omega) (f5.1.below h))
            have QB := hide (fun (Y : World) (h : Below wr.heap.size wr Y) => unhide QU Y ((unhide EW).trans (h.mono (unhide EW).size)) a6 m6 p6 _ hm6 (by omega) (f6.1.below h))
            rw [aq1] at QA
            rw [aq2] at QB
            rw [hm5, hm6]
            have SX := hide (fun (Y : World) (h : Below wr.heap.size wr Y) => (unhide S0 Y ((unhide EW).trans (h.mono (unhide EW).size))).1)
            obtain ⟨c0, c1⟩ := unhide SX _ (Below.refl _ _)
            have EZ := hide (Below.refl wr.heap.size wr)
            clear htwo hbel f5 f6 aq1 aq2 hm5 hm6 hlen1 hlen2 HT QU AQ
            go_wp2_with fail
            refine (unhide QA _ (unhide EZ)).mono ?_
            rintro e w7 ⟨rfl, b7⟩
            have E7 := hide b7
            have QC := hide (unhide QB _ (unhide E7))
            obtain ⟨d0, d1⟩ := unhide SX _ (unhide E7)
            clear b7 QA QB c0 c1
            go_wp2_with fail
            refine (unhide QC).mono ?_
            rintro e w8 ⟨rfl, b8⟩
            have E8 := hide ((unhide E7).trans (b8.mono (unhide E7).size))
            clear b8 QC
            go_wp2
            go_ret
            have bb := (unhide EW).trans ((unhide E8).mono (unhide EW).size)
            exact ⟨rfl, (unhide BA0).trans (bb.mono (unhide BA0).size)⟩
end Go.Proofs.Ytjcidihcmbenhaa
