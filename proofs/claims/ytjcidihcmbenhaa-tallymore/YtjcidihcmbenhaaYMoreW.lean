/- TallyMore: the walk. -/
import Derived.Test.YtjcidihcmbenhaaYRow
import Derived.Test.YtjcidihcmbenhaaKGood
import Derived.Deep.RegionHeldLaw
namespace Go.Proofs.Ytjcidihcmbenhaa
open Go.RowKit Go.Maps

theorem last_yes {ms : List (Int × Int)} {k : Nat} {id A : Int} (h : k < ms.length) (_hA : lastOf (ms.take k) id = A) (he : (ms.getD k (0, 0)).1 = id) : lastOf (ms.take (k + 1)) id = (ms.getD k (0, 0)).2 := by
  rw [take_succ ms (0, 0) k h, lastOf_snoc, if_pos he]
theorem last_no {ms : List (Int × Int)} {k : Nat} {id A : Int} (h : k < ms.length) (hA : lastOf (ms.take k) id = A) (he : ¬ (ms.getD k (0, 0)).1 = id) : lastOf (ms.take (k + 1)) id = A := by
  rw [take_succ ms (0, 0) k h, lastOf_snoc, if_neg he, hA]
theorem Wfs.snoc {ms : List (Int × Int)} {x y : Int} (h : Wfs ms) (hx : wf64 x) (hy : wf64 y) : Wfs (ms ++ [(x, y)]) := fun m hm => by
  rcases List.mem_append.1 hm with h1 | h1
  · exact h m h1
  · rw [List.mem_singleton] at h1; subst h1; exact ⟨hx, hy⟩
theorem empty_marks (w : World) (t : TypeId) : Mr t w.heap.size (w.alloc (.cells #[] t)) (.slice (some ⟨w.heap.size, 0, none⟩) 0 0) [] := by
  refine ⟨rfl, Or.inr ⟨w.heap.size, 0, #[], rfl, Nat.le_refl _, heap_alloc_new _ _, ?_⟩⟩
  simp [maxLen, flat2]
theorem wr_sum {a b : Int} (h1 : 0 ≤ a) (h2 : a ≤ 1099511627776) (h3 : 0 ≤ b) (h4 : b ≤ 1000) : IntKind.i64.wrap (a + b) = a + b := IntWalk.i64_in _ (by omega)

set_option maxRecDepth 20000 in
set_option maxHeartbeats 8000000 in
theorem more_walk (old now : Int) (al : Option Addr) (n cl : Nat) (ms : List (Int × Int)) (hn : ms.length = n) (hmax : n ≤ maxLen) (hwf : Wfs ms) (id more : Int) (hid : wf64 id) (w : World) (hL : MkR w al ms) :
    Calls Try.prog 5 #[.int .i64 old, .int .i64 now, .slice al n cl, .int .i64 id, .int .i64 more] w fun e w' => e = .returned (.bool true) ∧ Below w.heap.size w w' := by
  have hmm' : n ≤ 9223372036854775807 := hmax
  have KN := hide (known_any w)
  have HL := hide hL
  have EN := hide hn
  have WF := hide hwf
  have HID := hide hid
  clear hL hn hwf hid hmax
  go_enter Try.func5, Try.ntmps5
  go_wp2_with fail
  refine (unhide KN).mono ?_
  rintro e w1 ⟨rfl, b1⟩
  have B1 := hide b1
  have GO := hide (good_any old now w1)
  clear b1 KN
  by_cases h1 : (30 : Int) < n
  · go_wp2
    go_ret
    exact ⟨rfl, unhide B1⟩
  by_cases h2 : more < 0
  · go_wp2
    go_ret
    exact ⟨rfl, unhide B1⟩
  by_cases h3 : 1000 < more
  · go_wp2
    go_ret
    exact ⟨rfl, unhide B1⟩
  have hn30 : n ≤ 30 := by omega
  go_wp2_with fail
  refine (unhide GO).mono ?_
  rintro e w2 ⟨v2, rfl, ⟨ao, no, co, an, nn, cn, rfl, eno, -, fo, enn, hcn, fn⟩, b2⟩
  obtain ⟨os, hos⟩ : ∃ os, lst (bitOf old) 9 = os := ⟨_, rfl⟩
  obtain ⟨ns, hns⟩ : ∃ ns, plainOf (bitOf now) = ns := ⟨_, rfl⟩
  have UO : Hid (Up os ∧ os.length ≤ 7) := by rw [← hos]; exact ⟨lst_Up _, lst_len _⟩
  have UN : Hid (Up ns ∧ ns.length ≤ 7 ∧ ns ≠ []) := by rw [← hns]; exact ⟨plain_Up _, plain_len _, plain_ne _⟩
  rw [hos] at eno fo
  rw [hns] at enn fn
  obtain ⟨A0, hA0, bA0, xA0, -⟩ := boxed w2 (.slice ao no co) (.slice an nn cn)
  have b12 := (unhide B1).trans (b2.mono (unhide B1).size)
  have HA0 := hide hA0
  have BA0 := hide (b12.trans (bA0.mono b12.size))
  have S0 := hide (fun (Y : World) (h : Below A0.heap.size A0 Y) => And.intro (two_cells (Below.stay h xA0)) (And.intro ((fo.below bA0).below h) ((fn.below bA0).below h)))
  have hno7 : no ≤ 7 := by rw [← eno]; exact (unhide UO).2
  have hnn7 : nn ≤ 7 := by rw [← enn]; exact (unhide UN).2.1
  have ENO := hide eno
  have ENN := hide enn
  have LL := hide (fun (Y : World) (h : Below A0.heap.size A0 Y) => ((unhide HL).below (unhide BA0)).below h)
  have RE := hide (fun (Y : World) (h : Below A0.heap.size A0 Y) (a' : Option Addr) (n' c' : Nat) (ms' : List (Int × Int)) (hn' : ms'.length = n') (hl' : n' ≤ 1000) (hw' : Wfs ms') (hY : MkR Y a' ms') =>
    reach_any ao an no nn co cn os ns (unhide ENO) (unhide ENN) (by omega) (by omega) (unhide UO).1 (unhide UN).1 a' n' c' ms' hn' hl' hw' Y (unhide S0 Y h).2.1.1 (unhide S0 Y h).2.2.1 hY)
  clear hos hns eno enn fo fn b2 b12 hA0 bA0 xA0 GO B1
  go_upto_region 6 with fail
  rw [unhide HA0]
  clear HA0
  go_wp2_with fail
  go_loopw [13, 12] (fun i s wr => ∃ (k : Nat) (A : Int), k ≤ n ∧ i = .int .i64 k ∧ s = .int .i64 A ∧ lastOf (ms.take k) id = A ∧ A ≤ 1099511627776 ∧ wr = A0) (fun i _ _ => n - (intOf i).toNat)
  case atStart => exact ⟨0, 0, Nat.zero_le _, rfl, rfl, rfl, by omega, rfl⟩
  case round =>
    obtain ⟨k, A, hk, rfl, rfl, hA, hAb, rfl⟩ := hrel
    have HA := hide hA
    clear hA
    by_cases hlt : k < n
    · obtain ⟨g, off, ha, d1, d2⟩ := unhide LL wr (Below.refl _ _) k (by rw [unhide EN]; exact hlt)
      subst ha
      have q : (k : Int) < n := by omega
      have YES := hide (last_yes (ms := ms) (k := k) (by rw [unhide EN]; exact hlt) (unhide HA))
      have NO := hide (last_no (ms := ms) (k := k) (by rw [unhide EN]; exact hlt) (unhide HA))
      obtain ⟨⟨x, v⟩, hxk⟩ : ∃ p, ms.getD k (0, 0) = p := ⟨_, rfl⟩
      rw [hxk] at d1 d2 YES NO
      clear hxk
      by_cases hv : 1099511627776 < v
      · go_wp2
        go_ret
        exact ⟨rfl, unhide BA0⟩
      · by_cases hx : x = id
        · have N1 := hide (unhide YES hx)
          have hx' : (x == id) = true := by rw [beq_iff_eq]; exact hx
          clear YES NO
          subst hx
          go_wp2
          go_roundw
          case rel => exact ⟨k + 1, v, by omega, by go_num, rfl, unhide N1, by omega, trivial⟩
          case measure => simp [intOf]; omega
        · have N1 := hide (unhide NO hx)
          have hx' : (x == id) = false := by rw [beq_eq_false_iff_ne]; exact hx
          clear YES NO
          go_wp2
          go_roundw
          case rel => exact ⟨k + 1, A, by omega, by go_num, rfl, unhide N1, by omega, trivial⟩
          case measure => simp [intOf]; omega
    · obtain rfl : k = n := by omega
      have et : ms.take k = ms := by rw [← unhide EN, List.take_length]
      rw [et] at HA
      clear et
      by_cases hneg : A < 0
      · go_wp2
        go_ret
        exact ⟨rfl, unhide BA0⟩
      · have ws := wr_sum (a := A) (b := more) (by omega) hAb (by omega) (by omega)
        have WS : Hid (wf64 (A + more)) := wf_range (by omega)
        obtain ⟨S, hS⟩ : ∃ S, A + more = S := ⟨_, rfl⟩
        rw [hS] at ws WS
        have HS : Hid (A ≤ S) := by show A ≤ S; omega
        obtain ⟨W1, hW1⟩ : ∃ W1, wr.alloc (.cells #[] 30) = W1 := ⟨_, rfl⟩
        have c1 : Below wr.heap.size wr W1 := by rw [← hW1]; exact (Below.refl _ wr).alloc (Nat.le_refl _) _
        have o1 : Mr 30 wr.heap.size W1 (.slice (some ⟨wr.heap.size, 0, none⟩) 0 0) [] := by rw [← hW1]; exact empty_marks wr _
        have C1 := hide c1
        have O1 := hide o1
        have HW1 := hide hW1
        have hbel0 : wr.heap.size ≤ W1.heap.size := c1.size
        clear c1 o1 hW1
        go_wp2_with (first
          | (at_builtin
             rw [unhide HW1]
             clear HW1
             refine wpList_marks Try.underlying22 Try.infoM rfl (.tmp 57) (.tmp 58) rfl wr.heap.size _ [] ms rfl (unhide O1) al k cl (unhide EN) rfl (unhide LL _ (unhide C1)) (by simp; omega) hbel0 ?_
             intro v3 w3 o3 g3
             have B3 := hide ((unhide O1).grown g3 (unhide C1) hbel0)
             have O3 := hide o3
             clear o3 g3 O1 C1)
          | (at_builtin
             refine wpList_marks Try.underlying22 Try.infoM rfl (.tmp 59) (.tmp 65) rfl wr.heap.size _ ([] ++ ms) [(id, S)] rfl ((unhide O3).below ((Below.refl _ _).alloc (Nat.le_refl _) _)) (some ⟨w3.heap.size, 0, none⟩) 1 1 rfl rfl (made_marks w3 _ _ _ rfl) (by simp; rw [unhide EN]; omega) (by have := (unhide B3).size; simp; omega) ?_
             intro v4 w4 o4 g4
             have B4 := hide (((unhide O3).below ((Below.refl _ _).alloc (Nat.le_refl _) (.cells #[.int .i64 id, .int .i64 S] 30))).grown g4 ((unhide B3).alloc (unhide B3).size _) (by have := (unhide B3).size; simp; omega))
             have O4 := hide o4
             clear o4 g4 O3 B3))
        obtain ⟨a4, c4, rfl, f4, -, -⟩ := (unhide O4).slice
        have F4 := hide f4
        have EZ := hide (unhide B4).drew
        have E4 := hide (unhide B4)
        have el : ([] ++ ms ++ [(id, S)]).length = k + 1 := by simp; exact unhide EN
        obtain ⟨k4, hk4⟩ : ∃ k4, k + 1 = k4 := ⟨_, rfl⟩
        rw [hk4] at el
        rw [el]
        have RA := hide (fun (Y : World) (h : Below wr.heap.size wr Y) (hY : MkR Y a4 ([] ++ ms ++ [(id, S)])) => unhide RE Y h a4 k4 c4 _ el (by omega) ((unhide WF).snoc (unhide HID) (unhide WS)) hY)
        have RB := hide (fun (Y : World) (h : Below wr.heap.size wr Y) => unhide RE Y h al k cl ms (unhide EN) (by omega) (unhide WF) (unhide LL Y h))
        have GM := hide (fun (Y : World) (h : Below w4.heap.size w4 Y) => (unhide F4).below h)
        have SX := hide (fun (Y : World) (h : Below wr.heap.size wr Y) => (unhide S0 Y h).1)
        have B4Z := hide (Below.refl w4.heap.size w4).drew
        clear f4 el RE S0 hk4
        go_upto_region 17 with fail
        go_region_held_law (fun Y => Y.cell? ⟨w2.heap.size, 0, none⟩ = some (.slice ao no co) ∧ Y.cell? ⟨w2.heap.size, 1, none⟩ = some (.slice an nn cn))
          (first | exact unhide SX _ (unhide EZ))
          (first
            | (go_at_call_of 10 (Value.slice a4 k4 c4)
               refine (unhide RA _ (unhide EZ) (unhide GM _ (unhide B4Z))).mono ?_
               rintro e wz ⟨ra, rfl, hra, bz⟩
               have HRA := hide hra
               have E0 := hide ((unhide EZ).trans (bz.mono (unhide EZ).size))
               have G0 := hide ((unhide B4Z).trans (bz.mono (unhide B4Z).size))
               clear EZ B4Z hra bz
               have EZ := E0
               have B4Z := G0
               clear E0 G0)
            | (go_at_call_of 10 (Value.slice al k cl)
               refine (unhide RB _ (unhide EZ)).mono ?_
               rintro e wz ⟨rb, rfl, hrb, bz⟩
               have HRB := hide hrb
               have E0 := hide ((unhide EZ).trans (bz.mono (unhide EZ).size))
               have G0 := hide ((unhide B4Z).trans (bz.mono (unhide B4Z).size))
               clear EZ B4Z hrb bz
               have EZ := E0
               have B4Z := G0
               clear E0 G0))
        all_goals have hge : rb ≤ ra := ReachIs.more (id := id) (x := S) (by rw [unhide HA]; exact unhide HS) (unhide HRB) (unhide HRA)
        all_goals go_wp2
        all_goals go_ret
        all_goals exact ⟨by simp [hge], (unhide BA0).trans ((unhide EZ).mono (unhide BA0).size)⟩
end Go.Proofs.Ytjcidihcmbenhaa
