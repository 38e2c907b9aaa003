/- append onto a row of rows of the call's own: a law for the walk; synodallaw4's small, size, pick: contracts. -/
import Derived.Test.YtbfepfpocgijgaaDoorWSmall
namespace Go.Proofs.YtbfepfpocgijgaaDoor
open Go.RowKit

theorem wpList_append_rows {w : World} {ops : Array Oper} {rest : List Oper} {o : Oper} {a : Act} {Q : Exit → Act → World → Prop} (hgd : o.guard = none) (s x : Operand)
    (ho : o.op = .call { callee := .builtin .append, args := #[s, x], argTypes := #[31, 31] }) (base : Nat) (v : Value) (vs : List Value) (nx : Nat) (hs : a.eval s = v) (hown : w.ownsRow base 32 1 v nx vs)
    (ao : Option Addr) (m c : Nat) (us : List Value) (hx : a.eval x = .slice ao m c) (hm : us.length = m) (hus : ∀ i u, us[i]? = some u → ∃ ad, ao = some ad ∧ w.cell? (ad.add i) = some u) (hone : ∀ u ∈ us, u.oneCell' = true) (hc : ao = none → c = 0) (hl : nx + m ≤ 1000000000) (hb : base ≤ w.heap.size)
    (h : ∀ ao' cap' w', w'.ownsRow base 32 1 (.slice ao' (nx + m) cap') (nx + m) (vs ++ us) → Kept base (fun k => v.ownBlock = some k) w w' → ((Value.slice ao' (nx + m) cap').ownBlock = v.ownBlock ∨ (Value.slice ao' (nx + m) cap').ownBlock = some w.heap.size) → wpList Tryd.prog ops Q rest (a.put o.dst (.slice ao' (nx + m) cap')) w') :
    wpList Tryd.prog ops Q (o :: rest) a w := by
  obtain ⟨i0, hi, hz0, hz1, hz2⟩ := info_parts Tryd.info27
  cases ao with
  | none =>
    obtain rfl : us = [] := by
      cases us with
      | nil => rfl
      | cons u us => obtain ⟨ad, e, _⟩ := hus 0 u rfl; cases e
    obtain rfl := hc rfl
    obtain rfl : m = 0 := hm.symm
    obtain ⟨aov, capv, rfl⟩ : ∃ aov capv, v = .slice aov nx capv := by
      rcases hown.2 with ⟨rfl, h0⟩ | ⟨gb, cap2, cur, rfl, _⟩
      · exact ⟨none, 0, by rw [h0]⟩
      · exact ⟨_, cap2, rfl⟩
    refine wpList_append_own_none hgd s x 31 ho base 32 i0 1 Tryd.underlying31 hi _ _ _ hs hown hx ?_
    exact h aov capv w (by simpa using hown) (Kept.refl _ _ _) (Or.inl rfl)
  | some ad =>
    refine wpList_append_own_at _ hgd s x 31 ho base 32 i0 (.slice none 0 0) 1 24 Tryd.underlying31 hi hz0 hz1 hz2 rfl (by decide) _ _ _ hs hown ad m c us hx (by simp [hm]) (fun j u hj => by obtain ⟨ad', e, hcell⟩ := hus j u hj; cases e; exact hcell) hone (by unfold maxLen; omega) (by omega) hb ?_
    intro v' w' own' g' _ hat
    obtain ⟨ao', cap', rfl⟩ : ∃ ao' cap', v' = .slice ao' (nx + m) cap' := by
      rcases own'.2 with ⟨rfl, h0⟩ | ⟨gb, cap2, cur, rfl, _⟩
      · exact ⟨none, 0, by rw [h0]⟩
      · exact ⟨_, cap2, rfl⟩
    refine h ao' cap' w' own' ⟨(Below.refl _ _).grown g' hb (fun k hk => (hown.lt k hk).1), fun k hk hn => ?_⟩ hat
    obtain ⟨_, _, _, _, hold⟩ := g'
    exact hold k hk (fun e => hn e.symm)
/-- a slice of one value that was just built. -/
theorem built_one {w : World} {u : Value} {t : TypeId} : ∀ i x, [u][i]? = some x → ∃ ad, some (⟨w.heap.size, 0, none⟩ : Addr) = some ad ∧ (w.alloc (.cells #[u] t)).cell? (ad.add i) = some x :=
  fun i x hi => ⟨_, rfl, news_at i x (by simpa using hi)⟩
theorem rows_cells {w : World} {base : Nat} {ao : Option Addr} {n cap m : Nat} {vs : List Value} (h : w.ownsRow base 32 1 (.slice ao n cap) m vs) : ∀ i u, vs[i]? = some u → ∃ ad, ao = some ad ∧ w.cell? (ad.add i) = some u := by
  intro i u hi
  have hl := (List.getElem?_eq_some_iff.1 hi).1
  have h1 := h.1
  rcases h.2 with ⟨e, h0⟩ | ⟨g, cap', cur, e, _⟩
  · omega
  · cases e
    have hc := h.cellAt i (by omega)
    refine ⟨_, rfl, ?_⟩
    rw [Addr.add_lit]
    simpa using hc.trans hi

theorem row_nil {w : World} {base : Nat} {e : TypeId} {z : Nat} {ao : Option Addr} {n cap m : Nat} {vs : List Value} (h : w.ownsRow base e z (.slice ao n cap) m vs) : ao = none → cap = 0 := by
  intro e0
  rcases h.2 with ⟨e1, _⟩ | ⟨g, cap', cur, e1, _⟩
  · cases e1; rfl
  · cases e1; cases e0
/-- what small leaves of rows. -/
def smallOf (xs : List (List Nat)) : List (List Nat) := (xs.take 8).filter fun x => decide (x.length ≤ 300)
theorem smallOf_len (xs : List (List Nat)) : (smallOf xs).length ≤ 8 := Nat.le_trans (List.length_filter_le _ _) (by rw [List.length_take]; omega)
theorem smallOf_mem {xs : List (List Nat)} : ∀ x ∈ smallOf xs, x.length ≤ 300 ∧ x ∈ xs := fun x hx => by
  have h := List.mem_filter.1 hx
  exact ⟨by simpa using h.2, List.mem_of_mem_take h.1⟩

set_option maxHeartbeats 1000000 in
theorem small_any (w0 : World) (ao : Option Addr) (n cap : Nat) (xs : List (List Nat)) (hn : xs.length = n) (w : World) (hx : RowsArg w0 ao xs) (hb0 : Below w0.heap.size w0 w) (k : Nat) (hk : (smallOf xs).length = k) :
    Calls Tryd.prog 15 #[.slice ao n cap] w fun e w' => ∃ ao' cap' vs, e = .returned (.slice ao' k cap') ∧ w'.ownsRow w.heap.size 32 1 (.slice ao' k cap') k vs ∧ RowVals w0 vs (smallOf xs) ∧ (ao' = none → cap' = 0) ∧ Below w.heap.size w w' := by
  have HX := hide hx
  have HN := hide hn
  have B0 := hide hb0
  have HK := hide hk
  clear hx hn hb0 hk
  go_enter Tryd.func15, Tryd.ntmps15
  go_wp2_with fail
  go_loopg [3, 4] 8 (fun gg ov iv wr => ∃ (i : Nat) (vs : List Value) (ao' : Option Addr) (m cap' : Nat), i ≤ 8 ∧ gg = 8 - i ∧ i ≤ n ∧ iv = .int .i64 i ∧ m ≤ i ∧ ov = .slice ao' m cap' ∧ wr.ownsRow w.heap.size 32 1 (.slice ao' m cap') m vs ∧ RowVals w0 vs ((xs.take i).filter fun x => decide (x.length ≤ 300)) ∧ Below w.heap.size w wr)
  case atStart => exact ⟨0, [], none, 0, 0, by omega, rfl, Nat.zero_le _, rfl, Nat.le_refl _, rfl, World.ownsRow_nil _ _ _ _, by simpa using RowVals.nil w0, Below.refl _ _⟩
  case round =>
    obtain ⟨i, vs, ao', m, cap', hi8, hg, hin, rfl, hmi, rfl, hown, hrv, hb⟩ := hrel
    have HG := hide hg
    have OW := hide hown
    have RV := hide hrv
    have B := hide hb
    have hs := hb.size
    clear hg hown hrv hb
    by_cases hlt : i < n
    · by_cases h8 : i < 8
      · have hix : i < xs.length := by rw [unhide HN]; exact hlt
        obtain ⟨ad, r, cx, rfl, hc, hby, hcx, hnx⟩ := unhide HX i hix
        have hcr : wr.cell? (ad.add i) = some (.slice r (xs.getD i []).length cx) := by rw [((unhide B0).trans ((unhide B).mono (unhide B0).size)).cell (blk_lt hc)]; exact hc
        have hsu := take_succ xs [] i hix
        generalize xs.getD i [] = x at *
        obtain ⟨lx, hlx⟩ : ∃ lx, x.length = lx := ⟨_, rfl⟩
        rw [hlx] at hcr hcx
        have HSU := hide hsu
        have HBY := hide hby
        have HNX := hide hnx
        have HLX := hide hlx
        clear hsu hby hnx hlx hc hix
        by_cases h3 : lx ≤ 300
        · go_wp2_with (at_builtin; refine wpList_append_rows rfl (.tmp 21) (.tmp 26) rfl w.heap.size _ vs m rfl ((unhide OW).alloc _) (some ⟨wr.heap.size, 0, none⟩) 1 1 [.slice r lx cx] rfl rfl built_one (one_slice _ _ _) (fun e => by cases e) (by omega) (by simp; omega) ?_)
          intro ao3 cap3 w3 o3 k3 _
          have O3 := hide o3
          have B3 := hide (((unhide B).alloc hs _).trans k3.1)
          clear o3 k3
          go_wp2
          go_roundg (8 - (i + 1))
          case measure => have := unhide HG; omega
          case rel =>
            refine ⟨i + 1, vs ++ [.slice r lx cx], ao3, m + 1, cap3, by omega, rfl, by omega, by go_num, by omega, rfl, unhide O3, ?_, unhide B3⟩
            rw [unhide HSU, List.filter_append, show List.filter (fun x => decide (x.length ≤ 300)) [x] = [x] by simp [unhide HLX, h3]]
            exact (unhide RV).snoc (unhide HLX) (unhide HBY) hcx (unhide HNX)
        · go_wp2
          go_roundg (8 - (i + 1))
          case measure => have := unhide HG; omega
          case rel =>
            refine ⟨i + 1, vs, ao', m, cap', by omega, rfl, by omega, by go_num, by omega, rfl, unhide OW, ?_, unhide B⟩
            rw [unhide HSU, List.filter_append, show List.filter (fun x => decide (x.length ≤ 300)) [x] = [] by simp [unhide HLX]; omega, List.append_nil]
            exact unhide RV
      · have e8 : i = 8 := by omega
        subst e8
        go_wp2
        go_ret
        have hl : k = m := by have := (unhide RV).1; have h2 := (unhide OW).1; rw [← unhide HK, smallOf, ← this]; omega
        subst hl
        exact ⟨ao', cap', vs, rfl, unhide OW, unhide RV, row_nil (unhide OW), unhide B⟩
    · have e : xs.take i = xs.take 8 := by rw [List.take_of_length_le (by rw [unhide HN]; omega), List.take_of_length_le (by rw [unhide HN]; omega)]
      go_wp2
      go_ret
      have hr := unhide RV
      rw [e] at hr
      have hl : k = m := by have := hr.1; have h2 := (unhide OW).1; rw [← unhide HK, smallOf, ← this]; omega
      subst hl
      exact ⟨ao', cap', vs, rfl, unhide OW, hr, row_nil (unhide OW), unhide B⟩

set_option maxHeartbeats 1000000 in
theorem size_any (ao : Option Addr) (n cap : Nat) (xs : List (List Nat)) (hn : xs.length = n) (w : World) (hx : RowsArg w ao xs) (hf : Fit xs) (hl : n ≤ 1000) :
    Calls Tryd.prog 20 #[.slice ao n cap] w fun e w' => e = .returned (.int .i64 ((takes xs : Nat) : Int)) ∧ w' = w := by
  have HX := hide hx
  have HN := hide hn
  have HF := hide hf
  clear hx hn hf
  go_enter Tryd.func20, Tryd.ntmps20
  go_wp2_with fail
  go_loop [3, 4] (fun sv iv => ∃ (i m : Nat), i ≤ n ∧ takes (xs.take i) = m ∧ sv = .int .i64 m ∧ iv = .int .i64 i) (fun _ iv => n - (intOf iv).toNat)
  case atStart => exact ⟨0, 0, Nat.zero_le _, rfl, rfl, rfl⟩
  case round =>
    obtain ⟨i, m, hi, hm, rfl, rfl⟩ := hrel
    have hmb : m ≤ 65544000 := by
      have h1 := takes_few ((unhide HF).take i)
      rw [List.length_take, unhide HN, Nat.min_eq_left hi] at h1
      omega
    have HM := hide hm
    clear hm
    by_cases hlt : i < n
    · have hix : i < xs.length := by rw [unhide HN]; exact hlt
      obtain ⟨ad, r, cx, rfl, hc, hby, hcx, hnx⟩ := unhide HX i hix
      have hsu := take_succ xs [] i hix
      have hfx := (unhide HF _ (getD_mem hix)).2
      generalize xs.getD i [] = x at *
      have HSU := hide hsu
      clear hsu hby hnx
      go_wp2
      go_round
      case rel => exact ⟨i + 1, m + x.length + 8, by omega, by rw [unhide HSU, takes_snoc, unhide HM]; omega, by go_num, by go_num⟩
      case measure => simp [intOf]; omega
    · have e : xs.take i = xs := List.take_of_length_le (by rw [unhide HN]; omega)
      have hm := unhide HM
      rw [e] at hm
      go_wp2
      go_ret
      exact ⟨rfl, rfl⟩
end Go.Proofs.YtbfepfpocgijgaaDoor
