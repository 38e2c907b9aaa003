/- synodalref2.num: a contract. Appends onto a row of the call's own, and which blocks they leave alone: laws for lists of operations and for regions that draw. synodalref2.num, synodalref2.list: contracts that say which blocks are left alone. synodalref2.wrong: a contract. -/
import Derived.Test.YtojmnlbdhpledaaDoorWriter
import Derived.Maps.AppendAt
import Derived.Deep.RegionHeldLaw
import Derived.Test.YtojmnlbdhpledaaDoorEncE
namespace Go.Proofs.YtojmnlbdhpledaaDoor
open Go.RowKit

theorem own_snoc {base : Nat} {w : World} {v : Value} {bs : List Nat} {x : Nat} (hx : x < 256) (hb : ∀ y ∈ bs, y < 256) (h : w.ownsRow base 5 1 v (bs.length + 1) (u8s bs ++ [Value.int .u8 (x : Int)])) : Own base w v (bs ++ [x]) := by
  refine ⟨?_, ?_⟩
  · rw [List.length_append, show u8s (bs ++ [x]) = u8s bs ++ [Value.int .u8 (x : Int)] by simp [u8s]]; exact h
  · intro y hy
    rcases List.mem_append.1 hy with h | h
    · exact hb y h
    · simp at h; omega

set_option maxRecDepth 20000 in
set_option maxHeartbeats 4000000 in
theorem rnum (base : Nat) (v : Value) (bs : List Nat) (n : Int) (w : World) (hown : Own base w v bs) (hl : bs.length ≤ 900000000) (hbase : base ≤ w.heap.size) :
    Calls Tryd.prog 40 #[v, .int .i64 n] w fun e w' => ∃ v', e = .returned v' ∧ Own base w' v' (bs ++ num8 n) ∧ Only base [5] w w' := by
  obtain ⟨i0, hi, hz0, hz1, hz2⟩ := info_parts Tryd.info5
  obtain ⟨m, hm⟩ : ∃ m : Nat, (n % 18446744073709551616).toNat = m := ⟨_, rfl⟩
  have hu : IntKind.u64.wrap n = ((m : Nat) : Int) := by rw [IntKind.wrap_u64]; omega
  have hml : m < 18446744073709551616 := by omega
  have HQ : Hid (num8 n = be8 m) := by show _ = _; unfold num8; rw [hm]
  have HO := hide hown
  clear hm hown
  go_enter Tryd.func40, Tryd.ntmps40
  go_wp2_with fail
  go_loopg [0, 5] 8 (fun g bv kv wr => ∃ j : Nat, j ≤ 8 ∧ g = 8 - j ∧ kv = .int .i64 (7 - (j : Int)) ∧ Own base wr bv (bs ++ (be8 m).take j) ∧ Only base [5] w wr)
  case atStart => exact ⟨0, by omega, by omega, rfl, by simpa using unhide HO, Only.refl _ _ _⟩
  case round =>
    obtain ⟨j, hj, hg, rfl, ho, hon⟩ := hrel
    have HG := hide hg
    have HON := hide hon
    have s1 : base ≤ wr.heap.size := Nat.le_trans hbase hon.size
    have hown := ho.1
    have HB := hide ho.2
    have hlen : (bs ++ (be8 m).take j).length ≤ 900000008 := by rw [List.length_append, List.length_take]; omega
    clear hg hon ho
    by_cases h8 : j = 8
    · subst h8
      have HW := hide hown
      clear hown
      go_wp2
      go_ret
      exact ⟨_, rfl, by rw [unhide HQ]; exact ⟨unhide HW, unhide HB⟩, unhide HON⟩
    · have hc : j = 0 ∨ j = 1 ∨ j = 2 ∨ j = 3 ∨ j = 4 ∨ j = 5 ∨ j = 6 ∨ j = 7 := by omega
      rcases hc with rfl | rfl | rfl | rfl | rfl | rfl | rfl | rfl
      · obtain ⟨bb, hbb⟩ : ∃ bb, bs ++ (be8 m).take 0 = bb := ⟨_, rfl⟩
        rw [hbb] at hown hlen
        have HBB := hide hbb
        clear hbb h8 hj
        go_wp2_with (at_builtin; refine wpList_append_own _ rfl (.tmp 10) (.tmp 17) 27 rfl base 5 i0 (.int .u8 0) 1 1 Tryd.underlying27 hi hz0 hz1 hz2 rfl (by decide) _ _ _ rfl (hown.alloc _) ⟨wr.heap.size, 0, none⟩ 1 1 _ rfl rfl news_at (one1 _) (by unfold maxLen; omega) (by omega) (by simp; omega) ?_)
        intro v2 w2 own2 g2 _
        have k2 : Only base [5] wr w2 := ((Only.refl base [5] wr).alloc s1 _).own (hown.alloc _) g2 (by simp; omega) (Nat.le_refl _) (by simp)
        have e : (m : Int) / 72057594037927936 = ((m / 72057594037927936 % 256 : Nat) : Int) := by omega
        rw [e] at own2
        have O2 := hide (own_snoc (x := m / 72057594037927936 % 256) (by omega) (by rw [← unhide HBB]; exact unhide HB) own2)
        have K2 := hide ((unhide HON).trans k2)
        clear own2 g2 k2 hown e
        go_wp2
        go_roundg 7
        case measure => have := unhide HG; omega
        case rel => exact ⟨1, by omega, rfl, by first | rfl | simp, by rw [show bs ++ (be8 m).take 1 = (bs ++ (be8 m).take 0) ++ [m / 72057594037927936 % 256] by rw [List.append_assoc]; rfl, unhide HBB]; exact unhide O2, unhide K2⟩
      · obtain ⟨bb, hbb⟩ : ∃ bb, bs ++ (be8 m).take 1 = bb := ⟨_, rfl⟩
        rw [hbb] at hown hlen
        have HBB := hide hbb
        clear hbb h8 hj
        go_wp2_with (at_builtin; refine wpList_append_own _ rfl (.tmp 10) (.tmp 17) 27 rfl base 5 i0 (.int .u8 0) 1 1 Tryd.underlying27 hi hz0 hz1 hz2 rfl (by decide) _ _ _ rfl (hown.alloc _) ⟨wr.heap.size, 0, none⟩ 1 1 _ rfl rfl news_at (one1 _) (by unfold maxLen; omega) (by omega) (by simp; omega) ?_)
        intro v2 w2 own2 g2 _
        have k2 : Only base [5] wr w2 := ((Only.refl base [5] wr).alloc s1 _).own (hown.alloc _) g2 (by simp; omega) (Nat.le_refl _) (by simp)
        have e : (m : Int) / 281474976710656 % 256 = ((m / 281474976710656 % 256 : Nat) : Int) := by omega
        rw [e] at own2
        have O2 := hide (own_snoc (x := m / 281474976710656 % 256) (by omega) (by rw [← unhide HBB]; exact unhide HB) own2)
        have K2 := hide ((unhide HON).trans k2)
        clear own2 g2 k2 hown e
        go_wp2
        go_roundg 6
        case measure => have := unhide HG; omega
        case rel => exact ⟨2, by omega, rfl, by first | rfl | simp, by rw [show bs ++ (be8 m).take 2 = (bs ++ (be8 m).take 1) ++ [m / 281474976710656 % 256] by rw [List.append_assoc]; rfl, unhide HBB]; exact unhide O2, unhide K2⟩
      · obtain ⟨bb, hbb⟩ : ∃ bb, bs ++ (be8 m).take 2 = bb := ⟨_, rfl⟩
        rw [hbb] at hown hlen
        have HBB := hide hbb
        clear hbb h8 hj
        go_wp2_with (at_builtin; refine wpList_append_own _ rfl (.tmp 10) (.tmp 17) 27 rfl base 5 i0 (.int .u8 0) 1 1 Tryd.underlying27 hi hz0 hz1 hz2 rfl (by decide) _ _ _ rfl (hown.alloc _) ⟨wr.heap.size, 0, none⟩ 1 1 _ rfl rfl news_at (one1 _) (by unfold maxLen; omega) (by omega) (by simp; omega) ?_)
        intro v2 w2 own2 g2 _
        have k2 : Only base [5] wr w2 := ((Only.refl base [5] wr).alloc s1 _).own (hown.alloc _) g2 (by simp; omega) (Nat.le_refl _) (by simp)
        have e : (m : Int) / 1099511627776 % 256 = ((m / 1099511627776 % 256 : Nat) : Int) := by omega
        rw [e] at own2
        have O2 := hide (own_snoc (x := m / 1099511627776 % 256) (by omega) (by rw [← unhide HBB]; exact unhide HB) own2)
        have K2 := hide ((unhide HON).trans k2)
        clear own2 g2 k2 hown e
        go_wp2
        go_roundg 5
        case measure => have := unhide HG; omega
        case rel => exact ⟨3, by omega, rfl, by first | rfl | simp, by rw [show bs ++ (be8 m).take 3 = (bs ++ (be8 m).take 2) ++ [m / 1099511627776 % 256] by rw [List.append_assoc]; rfl, unhide HBB]; exact unhide O2, unhide K2⟩
      · obtain ⟨bb, hbb⟩ : ∃ bb, bs ++ (be8 m).take 3 = bb := ⟨_, rfl⟩
        rw [hbb] at hown hlen
        have HBB := hide hbb
        clear hbb h8 hj
        go_wp2_with (at_builtin; refine wpList_append_own _ rfl (.tmp 10) (.tmp 17) 27 rfl base 5 i0 (.int .u8 0) 1 1 Tryd.underlying27 hi hz0 hz1 hz2 rfl (by decide) _ _ _ rfl (hown.alloc _) ⟨wr.heap.size, 0, none⟩ 1 1 _ rfl rfl news_at (one1 _) (by unfold maxLen; omega) (by omega) (by simp; omega) ?_)
        intro v2 w2 own2 g2 _
        have k2 : Only base [5] wr w2 := ((Only.refl base [5] wr).alloc s1 _).own (hown.alloc _) g2 (by simp; omega) (Nat.le_refl _) (by simp)
        have e : (m : Int) / 4294967296 % 256 = ((m / 4294967296 % 256 : Nat) : Int) := by omega
        rw [e] at own2
        have O2 := hide (own_snoc (x := m / 4294967296 % 256) (by omega) (by rw [← unhide HBB]; exact unhide HB) own2)
        have K2 := hide ((unhide HON).trans k2)
        clear own2 g2 k2 hown e
        go_wp2
        go_roundg 4
        case measure => have := unhide HG; omega
        case rel => exact ⟨4, by omega, rfl, by first | rfl | simp, by rw [show bs ++ (be8 m).take 4 = (bs ++ (be8 m).take 3) ++ [m / 4294967296 % 256] by rw [List.append_assoc]; rfl, unhide HBB]; exact unhide O2, unhide K2⟩
      · obtain ⟨bb, hbb⟩ : ∃ bb, bs ++ (be8 m).take 4 = bb := ⟨_, rfl⟩
        rw [hbb] at hown hlen
        have HBB := hide hbb
        clear hbb h8 hj
        go_wp2_with (at_builtin; refine wpList_append_own _ rfl (.tmp 10) (.tmp 17) 27 rfl base 5 i0 (.int .u8 0) 1 1 Tryd.underlying27 hi hz0 hz1 hz2 rfl (by decide) _ _ _ rfl (hown.alloc _) ⟨wr.heap.size, 0, none⟩ 1 1 _ rfl rfl news_at (one1 _) (by unfold maxLen; omega) (by omega) (by simp; omega) ?_)
        intro v2 w2 own2 g2 _
        have k2 : Only base [5] wr w2 := ((Only.refl base [5] wr).alloc s1 _).own (hown.alloc _) g2 (by simp; omega) (Nat.le_refl _) (by simp)
        have e : (m : Int) / 16777216 % 256 = ((m / 16777216 % 256 : Nat) : Int) := by omega
        rw [e] at own2
        have O2 := hide (own_snoc (x := m / 16777216 % 256) (by omega) (by rw [← unhide HBB]; exact unhide HB) own2)
        have K2 := hide ((unhide HON).trans k2)
        clear own2 g2 k2 hown e
        go_wp2
        go_roundg 3
        case measure => have := unhide HG; omega
        case rel => exact ⟨5, by omega, rfl, by first | rfl | simp, by rw [show bs ++ (be8 m).take 5 = (bs ++ (be8 m).take 4) ++ [m / 16777216 % 256] by rw [List.append_assoc]; rfl, unhide HBB]; exact unhide O2, unhide K2⟩
      · obtain ⟨bb, hbb⟩ : ∃ bb, bs ++ (be8 m).take 5 = bb := ⟨_, rfl⟩
        rw [hbb] at hown hlen
        have HBB := hide hbb
        clear hbb h8 hj
        go_wp2_with (at_builtin; refine wpList_append_own _ rfl (.tmp 10) (.tmp 17) 27 rfl base 5 i0 (.int .u8 0) 1 1 Tryd.underlying27 hi hz0 hz1 hz2 rfl (by decide) _ _ _ rfl (hown.alloc _) ⟨wr.heap.size, 0, none⟩ 1 1 _ rfl rfl news_at (one1 _) (by unfold maxLen; omega) (by omega) (by simp; omega) ?_)
        intro v2 w2 own2 g2 _
        have k2 : Only base [5] wr w2 := ((Only.refl base [5] wr).alloc s1 _).own (hown.alloc _) g2 (by simp; omega) (Nat.le_refl _) (by simp)
        have e : (m : Int) / 65536 % 256 = ((m / 65536 % 256 : Nat) : Int) := by omega
        rw [e] at own2
        have O2 := hide (own_snoc (x := m / 65536 % 256) (by omega) (by rw [← unhide HBB]; exact unhide HB) own2)
        have K2 := hide ((unhide HON).trans k2)
        clear own2 g2 k2 hown e
        go_wp2
        go_roundg 2
        case measure => have := unhide HG; omega
        case rel => exact ⟨6, by omega, rfl, by first | rfl | simp, by rw [show bs ++ (be8 m).take 6 = (bs ++ (be8 m).take 5) ++ [m / 65536 % 256] by rw [List.append_assoc]; rfl, unhide HBB]; exact unhide O2, unhide K2⟩
      · obtain ⟨bb, hbb⟩ : ∃ bb, bs ++ (be8 m).take 6 = bb := ⟨_, rfl⟩
        rw [hbb] at hown hlen
        have HBB := hide hbb
        clear hbb h8 hj
        go_wp2_with (at_builtin; refine wpList_append_own _ rfl (.tmp 10) (.tmp 17) 27 rfl base 5 i0 (.int .u8 0) 1 1 Tryd.underlying27 hi hz0 hz1 hz2 rfl (by decide) _ _ _ rfl (hown.alloc _) ⟨wr.heap.size, 0, none⟩ 1 1 _ rfl rfl news_at (one1 _) (by unfold maxLen; omega) (by omega) (by simp; omega) ?_)
        intro v2 w2 own2 g2 _
        have k2 : Only base [5] wr w2 := ((Only.refl base [5] wr).alloc s1 _).own (hown.alloc _) g2 (by simp; omega) (Nat.le_refl _) (by simp)
        have e : (m : Int) / 256 % 256 = ((m / 256 % 256 : Nat) : Int) := by omega
        rw [e] at own2
        have O2 := hide (own_snoc (x := m / 256 % 256) (by omega) (by rw [← unhide HBB]; exact unhide HB) own2)
        have K2 := hide ((unhide HON).trans k2)
        clear own2 g2 k2 hown e
        go_wp2
        go_roundg 1
        case measure => have := unhide HG; omega
        case rel => exact ⟨7, by omega, rfl, by first | rfl | simp, by rw [show bs ++ (be8 m).take 7 = (bs ++ (be8 m).take 6) ++ [m / 256 % 256] by rw [List.append_assoc]; rfl, unhide HBB]; exact unhide O2, unhide K2⟩
      · obtain ⟨bb, hbb⟩ : ∃ bb, bs ++ (be8 m).take 7 = bb := ⟨_, rfl⟩
        rw [hbb] at hown hlen
        have HBB := hide hbb
        clear hbb h8 hj
        go_wp2_with (at_builtin; refine wpList_append_own _ rfl (.tmp 10) (.tmp 17) 27 rfl base 5 i0 (.int .u8 0) 1 1 Tryd.underlying27 hi hz0 hz1 hz2 rfl (by decide) _ _ _ rfl (hown.alloc _) ⟨wr.heap.size, 0, none⟩ 1 1 _ rfl rfl news_at (one1 _) (by unfold maxLen; omega) (by omega) (by simp; omega) ?_)
        intro v2 w2 own2 g2 _
        have k2 : Only base [5] wr w2 := ((Only.refl base [5] wr).alloc s1 _).own (hown.alloc _) g2 (by simp; omega) (Nat.le_refl _) (by simp)
        have e : (m : Int) % 256 = ((m % 256 : Nat) : Int) := by omega
        rw [e] at own2
        have O2 := hide (own_snoc (x := m % 256) (by omega) (by rw [← unhide HBB]; exact unhide HB) own2)
        have K2 := hide ((unhide HON).trans k2)
        clear own2 g2 k2 hown e
        go_wp2
        go_roundg 0
        case measure => have := unhide HG; omega
        case rel => exact ⟨8, by omega, rfl, by first | rfl | simp, by rw [show bs ++ (be8 m).take 8 = (bs ++ (be8 m).take 7) ++ [m % 256] by rw [List.append_assoc]; rfl, unhide HBB]; exact unhide O2, unhide K2⟩
end Go.Proofs.YtojmnlbdhpledaaDoor
namespace Go.Proofs.YtojmnlbdhpledaaDoor
open Go.RowKit

/-- all but the row's block is kept; the new row lies in the old one's block or in a new one. -/
def KO (base : Nat) (v v' : Value) (w w' : World) : Prop := Kept base (fun k => v.ownBlock = some k) w w' ∧ ∀ k, v'.ownBlock = some k → v.ownBlock = some k ∨ w.heap.size ≤ k
theorem KO.refl (base : Nat) (v : Value) (w : World) : KO base v v w w := ⟨Kept.refl _ _ _, fun _ h => Or.inl h⟩
theorem KO.trans {base : Nat} {v v1 v2 : Value} {w w1 w2 : World} (h : KO base v v1 w w1) (h' : KO base v1 v2 w1 w2) : KO base v v2 w w2 := by
  refine ⟨h.1.trans h'.1 (fun j hj e => ?_), fun k hk => ?_⟩
  · rcases h.2 j e with h1 | h1
    · exact h1
    · omega
  · rcases h'.2 k hk with h1 | h1
    · exact h.2 k h1
    · exact Or.inr (Nat.le_trans h.1.size h1)
theorem KO.fresh {base : Nat} {v v' : Value} {w w1 w' : World} (h : KO base v v' w1 w') (hb : Below w.heap.size w w1) (hs : base ≤ w.heap.size) : KO base v v' w w' :=
  ⟨(Kept.of_below hb hs).trans h.1 (fun _ _ e => e), fun k hk => (h.2 k hk).imp id (fun h1 => Nat.le_trans hb.size h1)⟩
theorem KO.below {base : Nat} {v v' : Value} {w w' : World} (h : KO base v v' w w') : Below base w w' := h.1.1
theorem KO.size {base : Nat} {v v' : Value} {w w' : World} (h : KO base v v' w w') : w.heap.size ≤ w'.heap.size := h.1.size
/-- a block that is not the row's stays. -/
theorem KO.block {base : Nat} {v v' : Value} {w w' : World} (h : KO base v v' w w') {k : Nat} (hk : k < w.heap.size) (hn : v.ownBlock ≠ some k) : w'.heap[k]? = w.heap[k]? := h.1.2 k hk hn
theorem KO.only {base : Nat} {v v' : Value} {w w' : World} {bs : List Nat} (h : KO base v v' w w') (ho : Own base w v bs) : Only base [5] w w' := by
  refine ⟨h.below, fun k hk hn => h.block hk (fun e => ?_)⟩
  obtain ⟨_, cur, fr, hc⟩ := own_tag ho.1 k e
  exact hn cur _ fr hc (by simp)

theorem ko_append {w w' : World} {base : Nat} {v v' : Value} {n : Nat} {xs : List Value} (hown : w.ownsRow base 5 1 v n xs) (g : w.grownBy w' v.ownBlock) (hb : base ≤ w.heap.size) (hat : v'.ownBlock = v.ownBlock ∨ v'.ownBlock = some w.heap.size) : KO base v v' w w' := by
  refine ⟨⟨(Below.refl _ _).grown g hb (fun k hk => (hown.lt k hk).1), fun k hk hn => ?_⟩, fun k hk => ?_⟩
  · obtain ⟨_, _, _, _, hold⟩ := g
    exact hold k hk (fun e => hn e.symm)
  · rcases hat with h | h
    · exact Or.inl (by rw [← h]; exact hk)
    · rw [h] at hk; cases hk; exact Or.inr (Nat.le_refl _)

/-- append of one byte that lies in a block: an operation's law. -/
theorem wp_byte {w : World} {o : Oper} {a : Act} {K : Act → World → Prop} {Q : Exit → Act → World → Prop} (s x : Operand)
    (ho : o.op = .call { callee := .builtin .append, args := #[s, x], argTypes := #[27, 27] }) (base : Nat) (v : Value) (bs : List Nat) (hs : a.eval s = v) (hown : Own base w v bs)
    (g y : Nat) (hy : y < 256) (z : Int) (hz : z = (y : Int)) (hx : a.eval x = .slice (some ⟨g, 0, none⟩) 1 1) (hc : w.cell? ⟨g, 0, none⟩ = some (.int .u8 z)) (hl : bs.length ≤ 1000000000) (hb : base ≤ w.heap.size)
    (h : ∀ v' w', Own base w' v' (bs ++ [y]) → KO base v v' w w' → K (a.put o.dst v') w') : Oper.wp Tryd.prog o a w K Q := by
  obtain ⟨i0, hi, hz0, hz1, hz2⟩ := info_parts Tryd.info5
  subst hz
  obtain ⟨v', w', hr, own', g', _, hat⟩ := run_append_own_at (P := Tryd.prog) w base 27 o.type 5 i0 (.int .u8 0) 1 1 Tryd.underlying27 hi hz0 hz1 hz2 rfl (by decide) v bs.length (u8s bs) hown.1 ⟨g, 0, none⟩ 1 1 [.int .u8 (y : Int)] rfl
    (fun j u hj => by
      cases j with
      | zero => rw [Addr.add_lit]; simp only [List.getElem?_cons_zero, Option.some.injEq] at hj; rw [← hj]; exact hc
      | succ j => simp at hj) (one1 _) (by unfold maxLen; omega) (by omega) hb
  unfold Oper.wp execOp
  simp only [ho, resolve, invoke, builtin, Sem.run_bind, Sem.run_pure, Result.andThen_ok, List.map_toArray, List.map_cons, List.map_nil, hs, hx, hr]
  exact h v' w' (own_snoc hy hown.2 own') (ko_append hown.1 g' hb hat)
/-- the same, the byte's block just made: for a list of operations. -/
theorem wpList_byte {w : World} {ops : Array Oper} {rest : List Oper} {o : Oper} {a : Act} {Q : Exit → Act → World → Prop} (hgd : o.guard = none) (s x : Operand)
    (ho : o.op = .call { callee := .builtin .append, args := #[s, x], argTypes := #[27, 27] }) (base : Nat) (v : Value) (bs : List Nat) (hs : a.eval s = v) (hown : Own base w v bs)
    (y : Nat) (hy : y < 256) (z : Int) (hz : z = (y : Int)) (hx : a.eval x = .slice (some ⟨w.heap.size, 0, none⟩) 1 1) (hl : bs.length ≤ 1000000000) (hb : base ≤ w.heap.size)
    (h : ∀ v' w', Own base w' v' (bs ++ [y]) → KO base v v' w w' → wpList Tryd.prog ops Q rest (a.put o.dst v') w') : wpList Tryd.prog ops Q (o :: rest) a (w.alloc (.cells #[.int .u8 z] 5)) := by
  have bA : Below w.heap.size w (w.alloc (.cells #[.int .u8 z] 5)) := (Below.refl _ w).alloc (Nat.le_refl _) _
  refine wpList_plain hgd fun K hK => wp_byte s x ho base v bs hs ⟨hown.1.alloc _, hown.2⟩ w.heap.size y hy z hz hx ?_ hl (Nat.le_trans hb bA.size) fun v' w' o' k' => hK _ _ (h v' w' o' (k'.fresh bA hb))
  have := heap_alloc_new w (.cells #[.int .u8 z] 5)
  exact (World.cell?_of_block (w := w.alloc (.cells #[.int .u8 z] 5)) (a := ⟨w.heap.size, 0, none⟩) rfl).trans (by simp only [World.cell?, this]; rfl)
/-- append of a string: an operation's law. -/
theorem wp_str {w : World} {o : Oper} {a : Act} {K : Act → World → Prop} {Q : Exit → Act → World → Prop} (s x : Operand)
    (ho : o.op = .call { callee := .builtin .append, args := #[s, x], argTypes := #[27, 9] }) (base : Nat) (v : Value) (bs : List Nat) (hs : a.eval s = v) (hown : Own base w v bs)
    (t : ByteArray) (hx : a.eval x = .string t) (ht : t.size ≤ 100) (hl : bs.length ≤ 1000000000) (hb : base ≤ w.heap.size)
    (h : ∀ v' w', Own base w' v' (bs ++ bytesOf t) → Only base [5] w w' → K (a.put o.dst v') w') : Oper.wp Tryd.prog o a w K Q := by
  obtain ⟨i0, hi, hz0, hz1, hz2⟩ := info_parts Tryd.info5
  obtain ⟨v', w', hr, own', g', _⟩ := Lib.run_append_own_string (P := Tryd.prog) w base 27 9 o.type 5 i0 Tryd.underlying27 Tryd.underlying9 hi hz0 hz1 hz2 v bs.length (u8s bs) hown.1 t (by unfold maxLen; omega) (by omega) hb
  unfold Oper.wp execOp
  simp only [ho, resolve, invoke, builtin, Sem.run_bind, Sem.run_pure, Result.andThen_ok, List.map_toArray, List.map_cons, List.map_nil, hs, hx, hr]
  refine h v' w' ⟨?_, ?_⟩ ((Only.refl base [5] w).own hown.1 g' hb (Nat.le_refl _) (by simp))
  · rw [List.length_append, bytesOf_len, show u8s (bs ++ bytesOf t) = u8s bs ++ u8s (bytesOf t) by simp [u8s], bytesOf_cells]; exact own'
  · intro y hy
    rcases List.mem_append.1 hy with h | h
    · exact hown.2 y h
    · exact bytesOf_lt t y h
end Go.Proofs.YtojmnlbdhpledaaDoor
namespace Go.Proofs.YtojmnlbdhpledaaDoor
open Go.RowKit

set_option maxRecDepth 20000 in
set_option maxHeartbeats 4000000 in
theorem rnumK (base : Nat) (v : Value) (bs : List Nat) (n : Int) (w : World) (hown : Own base w v bs) (hl : bs.length ≤ 900000000) (hbase : base ≤ w.heap.size) :
    Calls Tryd.prog 40 #[v, .int .i64 n] w fun e w' => ∃ v', e = .returned v' ∧ Own base w' v' (bs ++ num8 n) ∧ KO base v v' w w' := by
  obtain ⟨m, hm⟩ : ∃ m : Nat, (n % 18446744073709551616).toNat = m := ⟨_, rfl⟩
  have hu : IntKind.u64.wrap n = ((m : Nat) : Int) := by rw [IntKind.wrap_u64]; omega
  have hml : m < 18446744073709551616 := by omega
  have HQ : Hid (num8 n = be8 m) := by show _ = _; unfold num8; rw [hm]
  have HO := hide hown
  clear hm hown
  go_enter Tryd.func40, Tryd.ntmps40
  go_wp2_with fail
  go_loopg [0, 5] 8 (fun g bv kv wr => ∃ j : Nat, j ≤ 8 ∧ g = 8 - j ∧ kv = .int .i64 (7 - (j : Int)) ∧ Own base wr bv (bs ++ (be8 m).take j) ∧ KO base v bv w wr)
  case atStart => exact ⟨0, by omega, by omega, rfl, by simpa using unhide HO, KO.refl _ _ _⟩
  case round =>
    obtain ⟨j, hj, hg, rfl, ho, hon⟩ := hrel
    have HG := hide hg
    have HON := hide hon
    have s1 : base ≤ wr.heap.size := Nat.le_trans hbase hon.size
    have hown := ho.1
    have HB := hide ho.2
    have hlen : (bs ++ (be8 m).take j).length ≤ 900000008 := by rw [List.length_append, List.length_take]; omega
    clear hg hon ho
    by_cases h8 : j = 8
    · subst h8
      have HW := hide hown
      clear hown
      go_wp2
      go_ret
      exact ⟨_, rfl, by rw [unhide HQ]; exact ⟨unhide HW, unhide HB⟩, unhide HON⟩
    · have hc : j = 0 ∨ j = 1 ∨ j = 2 ∨ j = 3 ∨ j = 4 ∨ j = 5 ∨ j = 6 ∨ j = 7 := by omega
      rcases hc with rfl | rfl | rfl | rfl | rfl | rfl | rfl | rfl
      · obtain ⟨bb, hbb⟩ : ∃ bb, bs ++ (be8 m).take 0 = bb := ⟨_, rfl⟩
        rw [hbb] at hown hlen
        have HBB := hide hbb
        clear hbb h8 hj
        have HE : Hid ((m : Int) / 72057594037927936 = ((m / 72057594037927936 % 256 : Nat) : Int)) := by show _ = _; omega
        have OW : Hid (Own base wr _ bb) := ⟨hown, by rw [← unhide HBB]; exact unhide HB⟩
        clear hown
        go_wp2_with (at_builtin; refine wpList_byte rfl (.tmp 10) (.tmp 17) rfl base _ bb rfl (unhide OW) (m / 72057594037927936 % 256) (by omega) _ (unhide HE) rfl (by omega) s1 ?_)
        intro v2 w2 o2 k2
        have O2 := hide o2
        have K2 := hide ((unhide HON).trans k2)
        clear o2 k2 OW
        go_wp2
        go_roundg 7
        case measure => have := unhide HG; omega
        case rel => exact ⟨1, by omega, rfl, by first | rfl | simp, by rw [show bs ++ (be8 m).take 1 = (bs ++ (be8 m).take 0) ++ [m / 72057594037927936 % 256] by rw [List.append_assoc]; rfl, unhide HBB]; exact unhide O2, unhide K2⟩
      · obtain ⟨bb, hbb⟩ : ∃ bb, bs ++ (be8 m).take 1 = bb := ⟨_, rfl⟩
        rw [hbb] at hown hlen
        have HBB := hide hbb
        clear hbb h8 hj
        have HE : Hid ((m : Int) / 281474976710656 % 256 = ((m / 281474976710656 % 256 : Nat) : Int)) := by show _ = _; omega
        have OW : Hid (Own base wr _ bb) := ⟨hown, by rw [← unhide HBB]; exact unhide HB⟩
        clear hown
        go_wp2_with (at_builtin; refine wpList_byte rfl (.tmp 10) (.tmp 17) rfl base _ bb rfl (unhide OW) (m / 281474976710656 % 256) (by omega) _ (unhide HE) rfl (by omega) s1 ?_)
        intro v2 w2 o2 k2
        have O2 := hide o2
        have K2 := hide ((unhide HON).trans k2)
        clear o2 k2 OW
        go_wp2
        go_roundg 6
        case measure => have := unhide HG; omega
        case rel => exact ⟨2, by omega, rfl, by first | rfl | simp, by rw [show bs ++ (be8 m).take 2 = (bs ++ (be8 m).take 1) ++ [m / 281474976710656 % 256] by rw [List.append_assoc]; rfl, unhide HBB]; exact unhide O2, unhide K2⟩
      · obtain ⟨bb, hbb⟩ : ∃ bb, bs ++ (be8 m).take 2 = bb := ⟨_, rfl⟩
        rw [hbb] at hown hlen
        have HBB := hide hbb
        clear hbb h8 hj
        have HE : Hid ((m : Int) / 1099511627776 % 256 = ((m / 1099511627776 % 256 : Nat) : Int)) := by show _ = _; omega
        have OW : Hid (Own base wr _ bb) := ⟨hown, by rw [← unhide HBB]; exact unhide HB⟩
        clear hown
        go_wp2_with (at_builtin; refine wpList_byte rfl (.tmp 10) (.tmp 17) rfl base _ bb rfl (unhide OW) (m / 1099511627776 % 256) (by omega) _ (unhide HE) rfl (by omega) s1 ?_)
        intro v2 w2 o2 k2
        have O2 := hide o2
        have K2 := hide ((unhide HON).trans k2)
        clear o2 k2 OW
        go_wp2
        go_roundg 5
        case measure => have := unhide HG; omega
        case rel => exact ⟨3, by omega, rfl, by first | rfl | simp, by rw [show bs ++ (be8 m).take 3 = (bs ++ (be8 m).take 2) ++ [m / 1099511627776 % 256] by rw [List.append_assoc]; rfl, unhide HBB]; exact unhide O2, unhide K2⟩
      · obtain ⟨bb, hbb⟩ : ∃ bb, bs ++ (be8 m).take 3 = bb := ⟨_, rfl⟩
        rw [hbb] at hown hlen
        have HBB := hide hbb
        clear hbb h8 hj
        have HE : Hid ((m : Int) / 4294967296 % 256 = ((m / 4294967296 % 256 : Nat) : Int)) := by show _ = _; omega
        have OW : Hid (Own base wr _ bb) := ⟨hown, by rw [← unhide HBB]; exact unhide HB⟩
        clear hown
        go_wp2_with (at_builtin; refine wpList_byte rfl (.tmp 10) (.tmp 17) rfl base _ bb rfl (unhide OW) (m / 4294967296 % 256) (by omega) _ (unhide HE) rfl (by omega) s1 ?_)
        intro v2 w2 o2 k2
        have O2 := hide o2
        have K2 := hide ((unhide HON).trans k2)
        clear o2 k2 OW
        go_wp2
        go_roundg 4
        case measure => have := unhide HG; omega
        case rel => exact ⟨4, by omega, rfl, by first | rfl | simp, by rw [show bs ++ (be8 m).take 4 = (bs ++ (be8 m).take 3) ++ [m / 4294967296 % 256] by rw [List.append_assoc]; rfl, unhide HBB]; exact unhide O2, unhide K2⟩
      · obtain ⟨bb, hbb⟩ : ∃ bb, bs ++ (be8 m).take 4 = bb := ⟨_, rfl⟩
        rw [hbb] at hown hlen
        have HBB := hide hbb
        clear hbb h8 hj
        have HE : Hid ((m : Int) / 16777216 % 256 = ((m / 16777216 % 256 : Nat) : Int)) := by show _ = _; omega
        have OW : Hid (Own base wr _ bb) := ⟨hown, by rw [← unhide HBB]; exact unhide HB⟩
        clear hown
        go_wp2_with (at_builtin; refine wpList_byte rfl (.tmp 10) (.tmp 17) rfl base _ bb rfl (unhide OW) (m / 16777216 % 256) (by omega) _ (unhide HE) rfl (by omega) s1 ?_)
        intro v2 w2 o2 k2
        have O2 := hide o2
        have K2 := hide ((unhide HON).trans k2)
        clear o2 k2 OW
        go_wp2
        go_roundg 3
        case measure => have := unhide HG; omega
        case rel => exact ⟨5, by omega, rfl, by first | rfl | simp, by rw [show bs ++ (be8 m).take 5 = (bs ++ (be8 m).take 4) ++ [m / 16777216 % 256] by rw [List.append_assoc]; rfl, unhide HBB]; exact unhide O2, unhide K2⟩
      · obtain ⟨bb, hbb⟩ : ∃ bb, bs ++ (be8 m).take 5 = bb := ⟨_, rfl⟩
        rw [hbb] at hown hlen
        have HBB := hide hbb
        clear hbb h8 hj
        have HE : Hid ((m : Int) / 65536 % 256 = ((m / 65536 % 256 : Nat) : Int)) := by show _ = _; omega
        have OW : Hid (Own base wr _ bb) := ⟨hown, by rw [← unhide HBB]; exact unhide HB⟩
        clear hown
        go_wp2_with (at_builtin; refine wpList_byte rfl (.tmp 10) (.tmp 17) rfl base _ bb rfl (unhide OW) (m / 65536 % 256) (by omega) _ (unhide HE) rfl (by omega) s1 ?_)
        intro v2 w2 o2 k2
        have O2 := hide o2
        have K2 := hide ((unhide HON).trans k2)
        clear o2 k2 OW
        go_wp2
        go_roundg 2
        case measure => have := unhide HG; omega
        case rel => exact ⟨6, by omega, rfl, by first | rfl | simp, by rw [show bs ++ (be8 m).take 6 = (bs ++ (be8 m).take 5) ++ [m / 65536 % 256] by rw [List.append_assoc]; rfl, unhide HBB]; exact unhide O2, unhide K2⟩
      · obtain ⟨bb, hbb⟩ : ∃ bb, bs ++ (be8 m).take 6 = bb := ⟨_, rfl⟩
        rw [hbb] at hown hlen
        have HBB := hide hbb
        clear hbb h8 hj
        have HE : Hid ((m : Int) / 256 % 256 = ((m / 256 % 256 : Nat) : Int)) := by show _ = _; omega
        have OW : Hid (Own base wr _ bb) := ⟨hown, by rw [← unhide HBB]; exact unhide HB⟩
        clear hown
        go_wp2_with (at_builtin; refine wpList_byte rfl (.tmp 10) (.tmp 17) rfl base _ bb rfl (unhide OW) (m / 256 % 256) (by omega) _ (unhide HE) rfl (by omega) s1 ?_)
        intro v2 w2 o2 k2
        have O2 := hide o2
        have K2 := hide ((unhide HON).trans k2)
        clear o2 k2 OW
        go_wp2
        go_roundg 1
        case measure => have := unhide HG; omega
        case rel => exact ⟨7, by omega, rfl, by first | rfl | simp, by rw [show bs ++ (be8 m).take 7 = (bs ++ (be8 m).take 6) ++ [m / 256 % 256] by rw [List.append_assoc]; rfl, unhide HBB]; exact unhide O2, unhide K2⟩
      · obtain ⟨bb, hbb⟩ : ∃ bb, bs ++ (be8 m).take 7 = bb := ⟨_, rfl⟩
        rw [hbb] at hown hlen
        have HBB := hide hbb
        clear hbb h8 hj
        have HE : Hid ((m : Int) % 256 = ((m % 256 : Nat) : Int)) := by show _ = _; omega
        have OW : Hid (Own base wr _ bb) := ⟨hown, by rw [← unhide HBB]; exact unhide HB⟩
        clear hown
        go_wp2_with (at_builtin; refine wpList_byte rfl (.tmp 10) (.tmp 17) rfl base _ bb rfl (unhide OW) (m % 256) (by omega) _ (unhide HE) rfl (by omega) s1 ?_)
        intro v2 w2 o2 k2
        have O2 := hide o2
        have K2 := hide ((unhide HON).trans k2)
        clear o2 k2 OW
        go_wp2
        go_roundg 0
        case measure => have := unhide HG; omega
        case rel => exact ⟨8, by omega, rfl, by first | rfl | simp, by rw [show bs ++ (be8 m).take 8 = (bs ++ (be8 m).take 7) ++ [m % 256] by rw [List.append_assoc]; rfl, unhide HBB]; exact unhide O2, unhide K2⟩

set_option maxRecDepth 20000 in
set_option maxHeartbeats 1000000 in
theorem rlistK (base : Nat) (v : Value) (bs : List Nat) (ao : Option Addr) (n cap : Nat) (ys : List Int) (hn : ys.length = n) (h255 : n < 256) (w : World) (hown : Own base w v bs) (hy : ∀ i, i < ys.length → ∃ a, ao = some a ∧ w.cell? (a.add i) = some (.int .i64 (ys.getD i 0)) ∧ v.ownBlock ≠ some a.block) (hl : bs.length ≤ 800000000) (hbase : base ≤ w.heap.size) :
    Calls Tryd.prog 41 #[v, .slice ao n cap] w fun e w' => ∃ v', e = .returned v' ∧ Own base w' v' (bs ++ [n] ++ nums ys) ∧ KO base v v' w w' := by
  have hw := hown.1
  have HB := hide hown.2
  have HN := hide hn
  have HY := hide hy
  clear hown hn hy
  go_enter Tryd.func41, Tryd.ntmps41
  go_wp2_with (at_builtin; refine wpList_byte rfl (.tmp 6) (.tmp 10) rfl base _ bs rfl ⟨hw, unhide HB⟩ n h255 _ rfl rfl (by omega) hbase ?_)
  intro v1 w1 o1 k1
  have O1 := hide o1
  have K1 := hide k1
  clear o1 k1 hw
  go_wp2_with fail
  go_loopg [0, 5] n (fun g bv iv wr => ∃ k : Nat, k ≤ n ∧ g = n - k ∧ iv = .int .i64 k ∧ Own base wr bv (bs ++ [n] ++ nums (ys.take k)) ∧ KO base v bv w wr)
  case atStart => exact ⟨0, Nat.zero_le _, by omega, rfl, by simpa [nums] using unhide O1, unhide K1⟩
  case round =>
    obtain ⟨k, hk, hg, rfl, ho, hon⟩ := hrel
    have HG := hide hg
    have HON := hide hon
    have HO := hide ho
    have s1 : base ≤ wr.heap.size := Nat.le_trans hbase hon.size
    have hlen : (bs ++ [n] ++ nums (ys.take k)).length ≤ 900000000 := by rw [List.length_append, List.length_append, nums_len, List.length_take, unhide HN]; simp; omega
    clear hg hon ho O1 K1
    by_cases hlt : k < n
    · obtain ⟨a, rfl, hc0, hna⟩ := (unhide HY) k (by rw [unhide HN]; exact hlt)
      have hc : wr.cell? (a.add k) = some (.int .i64 (ys.getD k 0)) := by
        have hlt' := blk_lt hc0
        rw [World.cell?_of_block (w := w) (a := a.add k) (by rw [add_block] at hlt' ⊢; exact (unhide HON).block hlt' hna)]; exact hc0
      clear hc0 hna
      have HS : Hid (ys.take (k + 1) = ys.take k ++ [ys.getD k 0]) := take_succ ys 0 k (by rw [unhide HN]; exact hlt)
      go_wp2_with fail
      refine (rnumK base _ _ (ys.getD k 0) wr (unhide HO) hlen s1).mono ?_
      rintro e w2 ⟨v2, rfl, o2, k2⟩
      have O2 := hide o2
      have K2 := hide ((unhide HON).trans k2)
      clear o2 k2 hc
      go_wp2
      go_roundg (n - (k + 1))
      case measure => have := unhide HG; omega
      case rel => exact ⟨k + 1, by omega, rfl, by go_num, by rw [unhide HS, nums_snoc, ← List.append_assoc]; exact unhide O2, unhide K2⟩
    · have ek : ys.take k = ys := List.take_of_length_le (by rw [unhide HN]; omega)
      have ho := unhide HO
      rw [ek] at ho
      have HO' := hide ho
      clear ho ek
      go_wp2
      go_ret
      exact ⟨_, rfl, unhide HO', unhide HON⟩
end Go.Proofs.YtojmnlbdhpledaaDoor
namespace Go.Proofs.YtojmnlbdhpledaaDoor
open Go.RowKit

/-- the number that an entry is refused by. -/
def wrongE (kind : Int) (ts n : Nat) (to' : Int) : Nat := firstOf [0, refuse 0 kind, refuse 4 ts, refuse 5 n, refuse 1 to']
theorem wrong_kind {kind : Int} {ts n : Nat} {to' : Int} (h : kind < 0 ∨ 4 < kind) : wrongE kind ts n to' = 3 := by
  have e : refuse 0 kind = 3 := by unfold refuse; rw [if_pos (by show (kind < (0 : Int) ∨ (4 : Int) < kind); exact h)]; rfl
  simp [wrongE, firstOf, e]
theorem wrong_long {kind : Int} {ts n : Nat} {to' : Int} (h1 : 0 ≤ kind) (h2 : kind ≤ 4) (h : 16 < ts) : wrongE kind ts n to' = 5 := by
  have e : refuse 0 kind = 0 := by unfold refuse; rw [if_neg (by show ¬ (kind < (0 : Int) ∨ (4 : Int) < kind); omega)]
  have e4 : refuse 4 (ts : Int) = 5 := by unfold refuse; rw [if_pos (by show ((ts : Int) < (0 : Int) ∨ (16 : Int) < (ts : Int)); omega)]; rfl
  simp [wrongE, firstOf, e, e4]
theorem wrong_many {kind : Int} {ts n : Nat} {to' : Int} (h1 : 0 ≤ kind) (h2 : kind ≤ 4) (h3 : ts ≤ 16) (h : 9 < n) : wrongE kind ts n to' = 4 := by
  have e : refuse 0 kind = 0 := by unfold refuse; rw [if_neg (by show ¬ (kind < (0 : Int) ∨ (4 : Int) < kind); omega)]
  have e4 : refuse 4 (ts : Int) = 0 := by unfold refuse; rw [if_neg (by show ¬ ((ts : Int) < (0 : Int) ∨ (16 : Int) < (ts : Int)); omega)]
  have e5 : refuse 5 (n : Int) = 4 := by unfold refuse; rw [if_pos (by show ((n : Int) < (0 : Int) ∨ (9 : Int) < (n : Int)); omega)]; rfl
  simp [wrongE, firstOf, e, e4, e5]
theorem wrong_to {kind : Int} {ts n : Nat} {to' : Int} (h1 : 0 ≤ kind) (h2 : kind ≤ 4) (h3 : ts ≤ 16) (h4 : n ≤ 9) (h : to' < 0 ∨ 2 < to') : wrongE kind ts n to' = 3 := by
  have e : refuse 0 kind = 0 := by unfold refuse; rw [if_neg (by show ¬ (kind < (0 : Int) ∨ (4 : Int) < kind); omega)]
  have e4 : refuse 4 (ts : Int) = 0 := by unfold refuse; rw [if_neg (by show ¬ ((ts : Int) < (0 : Int) ∨ (16 : Int) < (ts : Int)); omega)]
  have e5 : refuse 5 (n : Int) = 0 := by unfold refuse; rw [if_neg (by show ¬ ((n : Int) < (0 : Int) ∨ (9 : Int) < (n : Int)); omega)]
  have e1 : refuse 1 to' = 3 := by unfold refuse; rw [if_pos (by show (to' < (0 : Int) ∨ (2 : Int) < to'); exact h)]; rfl
  simp [wrongE, firstOf, e, e4, e5, e1]
theorem wrong_ok {kind : Int} {ts n : Nat} {to' : Int} (h1 : 0 ≤ kind) (h2 : kind ≤ 4) (h3 : ts ≤ 16) (h4 : n ≤ 9) (h5 : 0 ≤ to') (h6 : to' ≤ 2) : wrongE kind ts n to' = 0 := by
  have e : refuse 0 kind = 0 := by unfold refuse; rw [if_neg (by show ¬ (kind < (0 : Int) ∨ (4 : Int) < kind); omega)]
  have e4 : refuse 4 (ts : Int) = 0 := by unfold refuse; rw [if_neg (by show ¬ ((ts : Int) < (0 : Int) ∨ (16 : Int) < (ts : Int)); omega)]
  have e5 : refuse 5 (n : Int) = 0 := by unfold refuse; rw [if_neg (by show ¬ ((n : Int) < (0 : Int) ∨ (9 : Int) < (n : Int)); omega)]
  have e1 : refuse 1 to' = 0 := by unfold refuse; rw [if_neg (by show ¬ (to' < (0 : Int) ∨ (2 : Int) < to'); omega)]
  simp [wrongE, firstOf, e, e4, e5, e1]
theorem wrong_put (kind client seq : Int) (t : ByteArray) (ys : List Int) (to' : Int) : (putEntry kind client seq t ys to' ([], 0)).2 = wrongE kind t.size ys.length to' := putEntry_err _ _ _ _ _ _ _

set_option maxRecDepth 20000 in
set_option maxHeartbeats 1000000 in
theorem rwrong_any (kind client seq to' : Int) (t : ByteArray) (ht : t.size ≤ maxLen) (ao : Option Addr) (n cap : Nat) (hn : n ≤ maxLen) (w : World) :
    Calls Tryd.prog 33 #[.agg #[.int .i64 kind, .int .i64 client, .int .i64 seq, .string t, .slice ao n cap, .int .i64 to']] w fun e w' => e = .returned (.int .i64 ((wrongE kind t.size n to' : Nat) : Int)) ∧ Below w.heap.size w w' := by
  have ht' : t.size ≤ 9223372036854775807 := ht
  have hn' : n ≤ 9223372036854775807 := hn
  have hb : ∀ o, Below w.heap.size w (w.alloc o) := fun o => (Below.refl _ w).alloc (Nat.le_refl _) o
  have HB := hide hb
  clear ht hn hb
  by_cases h1 : kind < 0
  · rw [wrong_kind (Or.inl h1)]
    go_enter Tryd.func33, Tryd.ntmps33
    go_wp2
    go_ret
    exact ⟨rfl, unhide HB _⟩
  by_cases h2 : 4 < kind
  · rw [wrong_kind (Or.inr h2)]
    go_enter Tryd.func33, Tryd.ntmps33
    go_wp2
    go_ret
    exact ⟨rfl, unhide HB _⟩
  by_cases h3 : 16 < t.size
  · rw [wrong_long (by omega) (by omega) h3]
    go_enter Tryd.func33, Tryd.ntmps33
    go_wp2
    go_ret
    exact ⟨rfl, unhide HB _⟩
  by_cases h4 : 9 < n
  · rw [wrong_many (by omega) (by omega) (by omega) h4]
    go_enter Tryd.func33, Tryd.ntmps33
    go_wp2
    go_ret
    exact ⟨rfl, unhide HB _⟩
  by_cases h5 : to' < 0
  · rw [wrong_to (by omega) (by omega) (by omega) (by omega) (Or.inl h5)]
    go_enter Tryd.func33, Tryd.ntmps33
    go_wp2
    go_ret
    exact ⟨rfl, unhide HB _⟩
  by_cases h6 : 2 < to'
  · rw [wrong_to (by omega) (by omega) (by omega) (by omega) (Or.inr h6)]
    go_enter Tryd.func33, Tryd.ntmps33
    go_wp2
    go_ret
    exact ⟨rfl, unhide HB _⟩
  · rw [wrong_ok (by omega) (by omega) (by omega) (by omega) (by omega) (by omega)]
    go_enter Tryd.func33, Tryd.ntmps33
    go_wp2
    go_ret
    exact ⟨rfl, unhide HB _⟩
end Go.Proofs.YtojmnlbdhpledaaDoor
