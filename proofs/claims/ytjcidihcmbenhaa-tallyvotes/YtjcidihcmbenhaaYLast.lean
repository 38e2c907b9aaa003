/- tally.lastMarks, tally.atLeast: contracts. -/
import Derived.Test.YtjcidihcmbenhaaYMap
namespace Go.Proofs.Ytjcidihcmbenhaa
open Go.RowKit Go.Maps

set_option maxRecDepth 20000 in
set_option maxHeartbeats 2000000 in
theorem last_any (am : Option Addr) (m cm : Nat) (M : List Int) (hm : M.length = m) (hlm : m ≤ 1000000) (hwm : ∀ x ∈ M, wf64 x) (al : Option Addr) (n cl : Nat) (ms : List (Int × Int)) (hn : ms.length = n) (hln : n ≤ 1000000) (hwf : Wfs ms) (w : World) (hM : IntsR w am M) (hL : MkR w al ms) :
    Calls Try.prog 26 #[.slice am m cm, .slice al n cl] w fun e w' => ∃ b c, e = .returned (.map (some b)) ∧ w.heap.size ≤ b ∧ Mp 3 w' b (cmOf M ms) c ∧ c ≤ 3000000 ∧ Below w.heap.size w w' := by
  obtain ⟨W, hW⟩ : ∃ W, w.alloc (.map #[] 0) = W := ⟨_, rfl⟩
  have bW : Below w.heap.size w W := by rw [← hW]; exact (Below.refl _ w).alloc (Nat.le_refl _) _
  have mW : Mp 3 W w.heap.size (cmOf (M.take 0) []) 0 := by rw [List.take_zero, cm_none, ← hW]; exact Mp.made _ w
  have HM := hide hM
  have HL := hide hL
  have EM := hide hm
  have EN := hide hn
  have WM := hide hwm
  have WL := hide hwf
  have HW := hide hW
  have BW := hide bW
  have MW := hide mW
  have hmm := @run_makeMap Try.prog
  clear hM hL hm hn hwm hwf hW bW mW
  go_enter Try.func26, Try.ntmps26
  go_wp2_with fail
  rw [unhide HW]
  clear HW
  go_loopw [15, 7] (fun i _ wr => ∃ (k : Nat), k ≤ m ∧ i = .int .i64 k ∧ Mp 3 wr w.heap.size (cmOf (M.take k) []) k ∧ Below w.heap.size w wr) (fun i _ _ => m - (intOf i).toNat)
  case atStart => exact ⟨0, Nat.zero_le _, rfl, unhide MW, unhide BW⟩
  case round =>
    obtain ⟨k, hk, rfl, hmp, hbel⟩ := hrel
    have BEL := hide hbel
    have sz := hbel.size
    by_cases hlt : k < m
    · obtain ⟨a1, rfl, h1⟩ := (unhide HM) k (by rw [unhide EM]; exact hlt)
      have c1 : wr.cell? (a1.add k) = some (.int .i64 (M.getD k 0)) := by rw [hbel.cell (blk_lt h1)]; exact h1
      have q : (k : Int) < m := by omega
      have MORE := hide (cm_more (M := M) (k := k) (by rw [unhide EM]; exact hlt))
      have wx := unhide WM _ (mem_getD (xs := M) (k := k) (by rw [unhide EM]; exact hlt))
      obtain ⟨x, hxk⟩ : ∃ x, M.getD k 0 = x := ⟨_, rfl⟩
      rw [hxk] at c1 MORE wx
      obtain ⟨W1, r1, r2, r3⟩ := hmp.store Try.underlying54 Try.underlying3 (x := x) (v := 0) wx (wf_range (by omega)) (by omega)
      rw [unhide MORE] at r2
      have R2 := hide r2
      have B1 := hide (hbel.grown r3 sz (fun j hj => by cases hj; exact Nat.le_refl _))
      clear h1 hxk hmp hbel r2 r3 MORE wx
      go_wp2
      go_roundw
      case rel => exact ⟨k + 1, by omega, by go_num, unhide R2, unhide B1⟩
      case measure => simp [intOf]; omega
    · obtain rfl : k = m := by omega
      have et : M.take k = M := by rw [← unhide EM, List.take_length]
      rw [et] at hmp
      have MP := hide hmp
      obtain ⟨w1, hw1⟩ : ∃ w1, w1 = wr := ⟨_, rfl⟩
      subst hw1
      clear hmp hbel et
      go_wp2_with fail
      go_loopw [24, 9, 10, 11] (fun i _ _ _ wr => ∃ (j c : Nat), j ≤ n ∧ i = .int .i64 j ∧ Mp 3 wr w.heap.size (cmOf M (ms.take j)) c ∧ c ≤ 1000000 + j ∧ Below w.heap.size w wr) (fun i _ _ _ _ => n - (intOf i).toNat)
      case atStart => exact ⟨0, k, Nat.zero_le _, rfl, by rw [List.take_zero]; exact unhide MP, by omega, unhide BEL⟩
      case round =>
        obtain ⟨j, c, hj, rfl, hmp, hc, hbel⟩ := hrel
        have BJ := hide hbel
        have sj := hbel.size
        by_cases hlt2 : j < n
        · obtain ⟨g2, o2, ha2, h2, h3⟩ := (unhide HL) j (by rw [unhide EN]; exact hlt2)
          subst ha2
          have d1 : wr.cell? ⟨g2, o2 + j * 2, none⟩ = some (.int .i64 (ms.getD j (0, 0)).1) := by rw [hbel.cell (blk_lt h2)]; exact h2
          have d2 : wr.cell? ⟨g2, o2 + j * 2 + 1, none⟩ = some (.int .i64 (ms.getD j (0, 0)).2) := by rw [hbel.cell (blk_lt h3)]; exact h3
          have q2 : (j : Int) < n := by omega
          have MARK := hide (cm_mark (M := M) (ms := ms) (k := j) (by rw [unhide EN]; exact hlt2))
          have SKIP := hide (cm_skip (M := M) (ms := ms) (k := j) (by rw [unhide EN]; exact hlt2))
          obtain ⟨wx, wv⟩ := unhide WL _ (mk_mem (ms := ms) (k := j) (by rw [unhide EN]; exact hlt2))
          obtain ⟨⟨x, v⟩, hxk⟩ : ∃ p, ms.getD j (0, 0) = p := ⟨_, rfl⟩
          rw [hxk] at d1 d2 MARK SKIP wx wv
          obtain ⟨W1, hW1⟩ : ∃ W1, wr.alloc (.cells #[.int .i64 x, .int .i64 v] 30) = W1 := ⟨_, rfl⟩
          have b1 : Below wr.heap.size wr W1 := by rw [← hW1]; exact (Below.refl _ wr).alloc (Nat.le_refl _) _
          have x1 : W1.heap[wr.heap.size]? = some (.cells #[.int .i64 x, .int .i64 v] 30 (0, 0)) := by rw [← hW1]; exact box_at _ _
          obtain ⟨c0, c1⟩ := two_cells x1
          have m1 := hmp.below b1
          have lk := m1.look_ok Try.underlying54 Try.underlying3 zeroI wx
          rw [cm_some] at lk
          obtain ⟨v0, hv0⟩ : ∃ v0, (cmOf M (ms.take j) x).getD 0 = v0 := ⟨_, rfl⟩
          rw [hv0] at lk
          obtain ⟨W2, r1, r2, r3⟩ := m1.store Try.underlying54 Try.underlying3 (x := x) (v := v) wx wv (by omega)
          have B1 := hide (hbel.trans (b1.mono sj))
          have B2 := hide ((unhide B1).grown r3 (unhide B1).size (fun j hj => by cases hj; exact Nat.le_refl _))
          have HW1 := hide hW1
          have M1 := hide m1
          have R2 := hide r2
          clear h2 h3 hxk hmp hbel r2 r3 wx wv hW1 b1 x1 m1 hv0
          go_upto_region 10 with fail
          rw [unhide HW1]
          clear HW1
          obtain ⟨r, hr⟩ : ∃ r, M.contains x = r := ⟨_, rfl⟩
          rw [hr] at lk MARK SKIP
          clear hr
          cases r
          · have N1 := hide (unhide SKIP rfl)
            clear MARK SKIP R2 B2 r1
            go_wp2
            go_roundw
            case rel => exact ⟨j + 1, c, by omega, by go_num, by rw [← unhide N1]; exact unhide M1, by omega, unhide B1⟩
            case measure => simp [intOf]; omega
          · have N1 := hide (unhide MARK rfl)
            clear MARK SKIP M1 B1
            go_wp2
            go_roundw
            case rel => exact ⟨j + 1, c + 1, by omega, by go_num, by rw [← unhide N1]; exact unhide R2, by omega, unhide B2⟩
            case measure => simp [intOf]; omega
        · obtain rfl : j = n := by omega
          have et : ms.take j = ms := by rw [← unhide EN, List.take_length]
          rw [et] at hmp
          have M1 := hide hmp
          clear hmp et hbel
          go_wp2
          go_ret
          exact ⟨w.heap.size, c, rfl, Nat.le_refl _, unhide M1, by omega, unhide BJ⟩

theorem filter_yes {M : List Int} {p : Int → Bool} {k : Nat} (h : k < M.length) (hp : p (M.getD k 0) = true) : (M.take (k + 1)).filter p = (M.take k).filter p ++ [M.getD k 0] := by
  rw [take_succ M 0 k h, List.filter_append, List.filter_cons_of_pos hp]; rfl
theorem filter_no {M : List Int} {p : Int → Bool} {k : Nat} (h : k < M.length) (hp : p (M.getD k 0) = false) : (M.take (k + 1)).filter p = (M.take k).filter p := by
  rw [take_succ M 0 k h, List.filter_append, List.filter_cons_of_neg (by rw [hp]; exact Bool.false_ne_true)]; simp

set_option maxRecDepth 20000 in
set_option maxHeartbeats 2000000 in
theorem atLeast_any (am : Option Addr) (m cm : Nat) (M : List Int) (hm : M.length = m) (hlm : m ≤ 1000000) (hwm : ∀ x ∈ M, wf64 x) (b c : Nat) (f : Int → Option Int) (x : Int) (w : World) (hM : IntsR w am M) (hf : Mp 3 w b f c) :
    Calls Try.prog 32 #[.slice am m cm, .map (some b), .int .i64 x] w fun e w' => ∃ v, e = .returned v ∧ Ir w.heap.size w' v (M.filter fun id => decide (x ≤ (f id).getD 0)) ∧ Below w.heap.size w w' := by
  have HM := hide hM
  have HF := hide hf
  have EM := hide hm
  have WM := hide hwm
  clear hM hf hm hwm
  obtain ⟨p, hp⟩ : ∃ p : Int → Bool, (fun id => decide (x ≤ (f id).getD 0)) = p := ⟨_, rfl⟩
  rw [hp]
  have HP : Hid (∀ y, p y = decide (x ≤ (f y).getD 0)) := fun y => by rw [← hp]
  clear hp
  go_enter Try.func32, Try.ntmps32
  go_wp2_with fail
  go_loopw [12, 7, 9] (fun i s _ wr => ∃ (k : Nat), k ≤ m ∧ i = .int .i64 k ∧ Ir w.heap.size wr s ((M.take k).filter p) ∧ Below w.heap.size w wr) (fun i _ _ _ => m - (intOf i).toNat)
  case atStart => exact ⟨0, Nat.zero_le _, rfl, by simp; exact Ir.nil _ _, Below.refl _ _⟩
  case round =>
    obtain ⟨k, hk, rfl, hown, hbel⟩ := hrel
    have hlen : ((M.take k).filter p).length ≤ k := Nat.le_trans (List.length_filter_le _ _) (by rw [List.length_take]; omega)
    have BEL := hide hbel
    have HO := hide hown
    have sz := hbel.size
    by_cases hlt : k < m
    · obtain ⟨a1, rfl, h1⟩ := (unhide HM) k (by rw [unhide EM]; exact hlt)
      have c1 : wr.cell? (a1.add k) = some (.int .i64 (M.getD k 0)) := by rw [hbel.cell (blk_lt h1)]; exact h1
      have q : (k : Int) < m := by omega
      have YES := hide (filter_yes (M := M) (p := p) (k := k) (by rw [unhide EM]; exact hlt))
      have NO := hide (filter_no (M := M) (p := p) (k := k) (by rw [unhide EM]; exact hlt))
      have wx := unhide WM _ (mem_getD (xs := M) (k := k) (by rw [unhide EM]; exact hlt))
      obtain ⟨id, hxk⟩ : ∃ id, M.getD k 0 = id := ⟨_, rfl⟩
      rw [hxk] at c1 YES NO wx
      have lk := ((unhide HF).below hbel).look Try.underlying54 Try.underlying3 zeroI wx
      have PY := unhide HP id
      obtain ⟨y, hy⟩ : ∃ y, (f id).getD 0 = y := ⟨_, rfl⟩
      rw [hy] at lk PY
      obtain ⟨l, hll⟩ : ∃ l, (M.take k).filter p = l := ⟨_, rfl⟩
      rw [hll] at HO YES NO hlen
      clear hown h1 hxk hy hll wx
      by_cases hxy : x ≤ y
      · have N1 := hide (unhide YES (by rw [PY]; exact decide_eq_true hxy))
        have hd : decide (x ≤ y) = true := decide_eq_true hxy
        have HLN : Hid (l.length + 1 ≤ 1000000000) := by show _ ≤ _; omega
        clear YES NO PY hbel hlen
        go_wp2_with (at_builtin; refine wpList_app rfl (.tmp 21) (.tmp 23) rfl w.heap.size _ l rfl ((unhide HO).below ((Below.refl _ _).alloc (Nat.le_refl _) _)) (some ⟨wr.heap.size, 0, none⟩) 1 1 [id] rfl rfl (one_int _ _) (unhide HLN) (by simp; omega) ?_)
        intro v' w' own' g'
        have OWN := hide own'
        have B' := hide (((unhide HO).below ((Below.refl _ _).alloc (Nat.le_refl _) (.cells #[.int .i64 id] 3))).grown g' ((unhide BEL).alloc sz _) (by simp; omega))
        clear own' g'
        go_wp2
        go_roundw
        case rel => exact ⟨k + 1, by omega, by go_num, by rw [unhide N1]; exact unhide OWN, unhide B'⟩
        case measure => simp [intOf]; omega
      · have N1 := hide (unhide NO (by rw [PY]; exact decide_eq_false hxy))
        have hd : decide (x ≤ y) = false := decide_eq_false hxy
        clear YES NO PY hbel hlen
        go_wp2
        go_roundw
        case rel => exact ⟨k + 1, by omega, by go_num, by rw [unhide N1]; exact unhide HO, unhide BEL⟩
        case measure => simp [intOf]; omega
    · obtain rfl : k = m := by omega
      have et : M.take k = M := by rw [← unhide EM, List.take_length]
      rw [et] at HO
      clear hown hlen hbel
      go_wp2
      go_ret
      exact ⟨_, rfl, unhide HO, unhide BEL⟩
end Go.Proofs.Ytjcidihcmbenhaa
