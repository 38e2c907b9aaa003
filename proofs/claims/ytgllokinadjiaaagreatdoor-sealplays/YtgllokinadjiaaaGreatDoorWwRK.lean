/- Appends onto a row of the call's own, and which blocks they leave alone: laws for lists of operations and for regions that draw. seal.appendInts: a contract. seal.Save: a contract. What Save writes is what parse reads: plain. -/
import Derived.Test.YtgllokinadjiaaaGreatDoorSFace
import Derived.Test.YtgllokinadjiaaaGreatDoorWwWriterE
import Derived.Maps.AppendAt
import Derived.Deep.RegionHeldLaw
import Derived.Test.YtgllokinadjiaaaGreatDoorNBase
import Derived.Test.YtgllokinadjiaaaGreatDoorKPlain
import Derived.Test.YtgllokinadjiaaaGreatDoorWwWriterG
import Derived.Test.YtgllokinadjiaaaGreatDoorWwReadPut
namespace Go.Proofs.YtgllokinadjiaaaGreatDoor.Ww
open Go.RowKit

/-- all but the row's block is kept; the new row lies in the old one's block or in a new one. -/
def KO (base : Nat) (v v' : Value) (w w' : World) : Prop := Kept base (fun k => v.ownBlock = some k) w w' ∧ ∀ k, v'.ownBlock = some k → v.ownBlock = some k ∨ w.heap.size ≤ k
theorem KO.refl (base : Nat) (v : Value) (w : World) : KO base v v w w := ⟨Kept.refl _ _ _, fun _ h => Or.inl h⟩
theorem KO.trans {base : Nat} {v v1 v2 : Value} {w w1 w2 : World} (h : KO base v v1 w w1) (h' : KO base v1 v2 w1 w2) : KO base v v2 w w2 := by
  refine ⟨h.1.trans h'.1 (fun j hj e => ?_), fun k hk => ?_⟩
  · rcases h.2 j e with h1 | h1
    · exact h1
    · omega
  · rcases h'.2 k hk with h1 | h1
    · exact h.2 k h1
    · exact Or.inr (Nat.le_trans h.1.size h1)
theorem KO.fresh {base : Nat} {v v' : Value} {w w1 w' : World} (h : KO base v v' w1 w') (hb : Below w.heap.size w w1) (hs : base ≤ w.heap.size) : KO base v v' w w' :=
  ⟨(Kept.of_below hb hs).trans h.1 (fun _ _ e => e), fun k hk => (h.2 k hk).imp id (fun h1 => Nat.le_trans hb.size h1)⟩
theorem KO.below {base : Nat} {v v' : Value} {w w' : World} (h : KO base v v' w w') : Below base w w' := h.1.1
theorem KO.size {base : Nat} {v v' : Value} {w w' : World} (h : KO base v v' w w') : w.heap.size ≤ w'.heap.size := h.1.size
/-- a block that is not the row's stays. -/
theorem KO.block {base : Nat} {v v' : Value} {w w' : World} (h : KO base v v' w w') {k : Nat} (hk : k < w.heap.size) (hn : v.ownBlock ≠ some k) : w'.heap[k]? = w.heap[k]? := h.1.2 k hk hn
theorem KO.only {base : Nat} {v v' : Value} {w w' : World} {bs : List Nat} (h : KO base v v' w w') (ho : Own base w v bs) : Only base [5] w w' := by
  refine ⟨h.below, fun k hk hn => h.block hk (fun e => ?_)⟩
  obtain ⟨_, cur, fr, hc⟩ := own_tag ho.1 k e
  exact hn cur _ fr hc (by simp)

theorem ko_append {w w' : World} {base : Nat} {v v' : Value} {n : Nat} {xs : List Value} (hown : w.ownsRow base 5 1 v n xs) (g : w.grownBy w' v.ownBlock) (hb : base ≤ w.heap.size) (hat : v'.ownBlock = v.ownBlock ∨ v'.ownBlock = some w.heap.size) : KO base v v' w w' := by
  refine ⟨⟨(Below.refl _ _).grown g hb (fun k hk => (hown.lt k hk).1), fun k hk hn => ?_⟩, fun k hk => ?_⟩
  · obtain ⟨_, _, _, _, hold⟩ := g
    exact hold k hk (fun e => hn e.symm)
  · rcases hat with h | h
    · exact Or.inl (by rw [← h]; exact hk)
    · rw [h] at hk; cases hk; exact Or.inr (Nat.le_refl _)

/-- append of one byte that lies in a block: an operation's law. -/
theorem wp_byte {w : World} {o : Oper} {a : Act} {K : Act → World → Prop} {Q : Exit → Act → World → Prop} (s x : Operand)
    (ho : o.op = .call { callee := .builtin .append, args := #[s, x], argTypes := #[53, 53] }) (base : Nat) (v : Value) (bs : List Nat) (hs : a.eval s = v) (hown : Own base w v bs)
    (g y : Nat) (hy : y < 256) (z : Int) (hz : z = (y : Int)) (hx : a.eval x = .slice (some ⟨g, 0, none⟩) 1 1) (hc : w.cell? ⟨g, 0, none⟩ = some (.int .u8 z)) (hl : bs.length ≤ 1000000000) (hb : base ≤ w.heap.size)
    (h : ∀ v' w', Own base w' v' (bs ++ [y]) → KO base v v' w w' → K (a.put o.dst v') w') : Oper.wp Tryz.prog o a w K Q := by
  obtain ⟨i0, hi, hz0, hz1, hz2⟩ := info_parts Tryz.info5
  subst hz
  obtain ⟨v', w', hr, own', g', _, hat⟩ := run_append_own_at (P := Tryz.prog) w base 53 o.type 5 i0 (.int .u8 0) 1 1 Tryz.underlying53 hi hz0 hz1 hz2 rfl (by decide) v bs.length (u8s bs) hown.1 ⟨g, 0, none⟩ 1 1 [.int .u8 (y : Int)] rfl
    (fun j u hj => by
      cases j with
      | zero => rw [Addr.add_lit]; simp only [List.getElem?_cons_zero, Option.some.injEq] at hj; rw [← hj]; exact hc
      | succ j => simp at hj) (one1 _) (by unfold maxLen; omega) (by omega) hb
  unfold Oper.wp execOp
  simp only [ho, resolve, invoke, builtin, Sem.run_bind, Sem.run_pure, Result.andThen_ok, List.map_toArray, List.map_cons, List.map_nil, hs, hx, hr]
  exact h v' w' (own_snoc hy hown.2 own') (ko_append hown.1 g' hb hat)
/-- the same, the byte's block just made: for a list of operations. -/
theorem wpList_byte {w : World} {ops : Array Oper} {rest : List Oper} {o : Oper} {a : Act} {Q : Exit → Act → World → Prop} (hgd : o.guard = none) (s x : Operand)
    (ho : o.op = .call { callee := .builtin .append, args := #[s, x], argTypes := #[53, 53] }) (base : Nat) (v : Value) (bs : List Nat) (hs : a.eval s = v) (hown : Own base w v bs)
    (y : Nat) (hy : y < 256) (z : Int) (hz : z = (y : Int)) (hx : a.eval x = .slice (some ⟨w.heap.size, 0, none⟩) 1 1) (hl : bs.length ≤ 1000000000) (hb : base ≤ w.heap.size)
    (h : ∀ v' w', Own base w' v' (bs ++ [y]) → KO base v v' w w' → wpList Tryz.prog ops Q rest (a.put o.dst v') w') : wpList Tryz.prog ops Q (o :: rest) a (w.alloc (.cells #[.int .u8 z] 5)) := by
  have bA : Below w.heap.size w (w.alloc (.cells #[.int .u8 z] 5)) := (Below.refl _ w).alloc (Nat.le_refl _) _
  refine wpList_plain hgd fun K hK => wp_byte s x ho base v bs hs ⟨hown.1.alloc _, hown.2⟩ w.heap.size y hy z hz hx ?_ hl (Nat.le_trans hb bA.size) fun v' w' o' k' => hK _ _ (h v' w' o' (k'.fresh bA hb))
  have := heap_alloc_new w (.cells #[.int .u8 z] 5)
  exact (World.cell?_of_block (w := w.alloc (.cells #[.int .u8 z] 5)) (a := ⟨w.heap.size, 0, none⟩) rfl).trans (by simp only [World.cell?, this]; rfl)
/-- append of a string: an operation's law. -/
theorem wp_str {w : World} {o : Oper} {a : Act} {K : Act → World → Prop} {Q : Exit → Act → World → Prop} (s x : Operand)
    (ho : o.op = .call { callee := .builtin .append, args := #[s, x], argTypes := #[53, 9] }) (base : Nat) (v : Value) (bs : List Nat) (hs : a.eval s = v) (hown : Own base w v bs)
    (t : ByteArray) (hx : a.eval x = .string t) (ht : t.size ≤ 100) (hl : bs.length ≤ 1000000000) (hb : base ≤ w.heap.size)
    (h : ∀ v' w', Own base w' v' (bs ++ bytesOf t) → Only base [5] w w' → K (a.put o.dst v') w') : Oper.wp Tryz.prog o a w K Q := by
  obtain ⟨i0, hi, hz0, hz1, hz2⟩ := info_parts Tryz.info5
  obtain ⟨v', w', hr, own', g', _⟩ := Lib.run_append_own_string (P := Tryz.prog) w base 53 9 o.type 5 i0 Tryz.underlying53 Tryz.underlying9 hi hz0 hz1 hz2 v bs.length (u8s bs) hown.1 t (by unfold maxLen; omega) (by omega) hb
  unfold Oper.wp execOp
  simp only [ho, resolve, invoke, builtin, Sem.run_bind, Sem.run_pure, Result.andThen_ok, List.map_toArray, List.map_cons, List.map_nil, hs, hx, hr]
  refine h v' w' ⟨?_, ?_⟩ ((Only.refl base [5] w).own hown.1 g' hb (Nat.le_refl _) (by simp))
  · rw [List.length_append, bytesOf_len, show u8s (bs ++ bytesOf t) = u8s bs ++ u8s (bytesOf t) by simp [u8s], bytesOf_cells]; exact own'
  · intro y hy
    rcases List.mem_append.1 hy with h | h
    · exact hown.2 y h
    · exact bytesOf_lt t y h
end Go.Proofs.YtgllokinadjiaaaGreatDoor.Ww
namespace Go.Proofs.YtgllokinadjiaaaGreatDoor
open Go.RowKit Go.Maps
open Ww (Own KO num8 nums be8 be8_lt num8_len nums_len nums_snoc)

set_option maxRecDepth 20000 in
set_option maxHeartbeats 8000000 in
theorem appendInts_any (base : Nat) (v : Value) (bs : List Nat) (n cap : Nat) (ys : List Int) (a : Addr) (hn : ys.length = n) (w : World) (hown : Own base w v bs) (hl : bs.length + 8 * n ≤ 900000000) (hbase : base ≤ w.heap.size)
    (hy : IntsR w (some a) ys) (hs : v.ownBlock ≠ some a.block) (hal : a.block < w.heap.size) :
    Calls Tryz.prog 38 #[v, .slice (some a) n cap] w fun e w' => ∃ v', e = .returned v' ∧ Own base w' v' (bs ++ nums ys) ∧ KO base v v' w w' := by
  have HO := hide hown
  have HN := hide hn
  have HY : Hid (∀ (wr : World) (bv : Value), KO base v bv w wr → IntsR wr (some a) ys ∧ (bv.ownBlock ≠ some a.block)) := hide (fun wr bv hk => by
    refine ⟨fun i hi => ?_, fun e => ?_⟩
    · obtain ⟨a', e, hc⟩ := hy i hi
      cases e
      exact ⟨a, rfl, by rw [World.cell?_of_block (w := w) (a := a.add i) (by rw [add_block]; exact hk.block hal hs)]; exact hc⟩
    · rcases hk.2 _ e with h | h
      · exact hs h
      · omega)
  clear hown hn hy
  go_enter Tryz.func38, Tryz.ntmps38
  go_wp2
  go_loopw [0, 10, 6, 7] (fun bv i _ _ wr => ∃ k : Nat, k ≤ n ∧ i = .int .i64 k ∧ Own base wr bv (bs ++ nums (ys.take k)) ∧ KO base v bv w wr) (fun _ i _ _ _ => n - (intOf i).toNat)
  case atStart => exact ⟨0, Nat.zero_le _, rfl, by simpa [nums] using unhide HO, KO.refl _ _ _⟩
  case round =>
    obtain ⟨k, hk, rfl, ho, hko⟩ := hrel
    have HK := hide hko
    by_cases hlt : k < n
    · obtain ⟨a', e, hc⟩ := (unhide HY _ _ hko).1 k (by rw [unhide HN]; exact hlt)
      cases e
      obtain ⟨y, hyv⟩ : ∃ y, ys.getD k 0 = y := ⟨_, rfl⟩
      rw [hyv] at hc
      obtain ⟨m, hm⟩ : ∃ m : Nat, (y % 18446744073709551616).toNat = m := ⟨_, rfl⟩
      have hu : IntKind.u64.wrap y = ((m : Nat) : Int) := by rw [IntKind.wrap_u64]; omega
      have hml : m < 18446744073709551616 := by omega
      obtain ⟨bk, hbk⟩ : ∃ bk, bs ++ nums (ys.take k) = bk := ⟨_, rfl⟩
      rw [hbk] at ho
      have HQ : Hid (bs ++ nums (ys.take (k + 1)) = bk ++ be8 m) := hide (by
        rw [take_succ ys 0 k (by rw [unhide HN]; exact hlt), nums_snoc, hyv, ← List.append_assoc, hbk, show num8 y = be8 m by unfold num8; rw [hm]])
      have hbl : bk.length ≤ 900000000 := by rw [← hbk, List.length_append, nums_len, List.length_take]; have := unhide HN; omega
      have HOB := hide ho
      have q1 : (k : Int) < (n : Int) := by omega
      have q0 : (0 : Int) ≤ (k : Int) := by omega
      clear hko ho hbk hm hyv
      go_wp2
      go_loopg [0, 7] 8 (fun g cv kv wq => ∃ j : Nat, j ≤ 8 ∧ g = 8 - j ∧ kv = .int .i64 (56 - 8 * (j : Int)) ∧ Own base wq cv (bk ++ (be8 m).take j) ∧ KO base v cv w wq)
      case atStart => exact ⟨0, by omega, by omega, rfl, by simpa using unhide HOB, unhide HK⟩
      case round =>
        obtain ⟨j, hj, hg, rfl, ho, hon⟩ := hrel
        have HG := hide hg
        have HON := hide hon
        have s1 : base ≤ wr.heap.size := Nat.le_trans hbase hon.size
        have hown := ho.1
        have HB := hide ho.2
        have hlen : (bk ++ (be8 m).take j).length ≤ 900000008 := by rw [List.length_append, List.length_take]; omega
        clear hg hon ho
        by_cases h8 : j = 8
        · subst h8
          have HW := hide hown
          clear hown hc
          go_wp2
          go_roundw
          case rel => exact ⟨k + 1, by omega, by go_num, by rw [unhide HQ]; exact ⟨unhide HW, unhide HB⟩, unhide HON⟩
          case measure => simp [intOf]; omega
        · have hcc : j = 0 ∨ j = 1 ∨ j = 2 ∨ j = 3 ∨ j = 4 ∨ j = 5 ∨ j = 6 ∨ j = 7 := by omega
          clear hc
          rcases hcc with rfl | rfl | rfl | rfl | rfl | rfl | rfl | rfl
          · obtain ⟨bb, hbb⟩ : ∃ bb, bk ++ (be8 m).take 0 = bb := ⟨_, rfl⟩
            rw [hbb] at hown hlen
            have HBB := hide hbb
            clear hbb h8 hj
            have HE : Hid ((m : Int) / 72057594037927936 = ((m / 72057594037927936 % 256 : Nat) : Int)) := by show _ = _; omega
            have OW : Hid (Own base wr _ bb) := ⟨hown, by rw [← unhide HBB]; exact unhide HB⟩
            clear hown
            go_wp2_with (at_builtin; refine Ww.wpList_byte rfl (.tmp 18) (.tmp 24) rfl base _ bb rfl (unhide OW) (m / 72057594037927936 % 256) (by omega) _ (unhide HE) rfl (by omega) s1 ?_)
            intro v2 w2 o2 k2
            have O2 := hide o2
            have K2 := hide ((unhide HON).trans k2)
            clear o2 k2 OW
            go_wp2
            go_roundg 7
            case measure => have := unhide HG; omega
            case rel => exact ⟨1, by omega, rfl, by first | rfl | simp, by rw [show bk ++ (be8 m).take 1 = (bk ++ (be8 m).take 0) ++ [m / 72057594037927936 % 256] by rw [List.append_assoc]; rfl, unhide HBB]; exact unhide O2, unhide K2⟩
          · obtain ⟨bb, hbb⟩ : ∃ bb, bk ++ (be8 m).take 1 = bb := ⟨_, rfl⟩
            rw [hbb] at hown hlen
            have HBB := hide hbb
            clear hbb h8 hj
            have HE : Hid ((m : Int) / 281474976710656 % 256 = ((m / 281474976710656 % 256 : Nat) : Int)) := by show _ = _; omega
            have OW : Hid (Own base wr _ bb) := ⟨hown, by rw [← unhide HBB]; exact unhide HB⟩
            clear hown
            go_wp2_with (at_builtin; refine Ww.wpList_byte rfl (.tmp 18) (.tmp 24) rfl base _ bb rfl (unhide OW) (m / 281474976710656 % 256) (by omega) _ (unhide HE) rfl (by omega) s1 ?_)
            intro v2 w2 o2 k2
            have O2 := hide o2
            have K2 := hide ((unhide HON).trans k2)
            clear o2 k2 OW
            go_wp2
            go_roundg 6
            case measure => have := unhide HG; omega
            case rel => exact ⟨2, by omega, rfl, by first | rfl | simp, by rw [show bk ++ (be8 m).take 2 = (bk ++ (be8 m).take 1) ++ [m / 281474976710656 % 256] by rw [List.append_assoc]; rfl, unhide HBB]; exact unhide O2, unhide K2⟩
          · obtain ⟨bb, hbb⟩ : ∃ bb, bk ++ (be8 m).take 2 = bb := ⟨_, rfl⟩
            rw [hbb] at hown hlen
            have HBB := hide hbb
            clear hbb h8 hj
            have HE : Hid ((m : Int) / 1099511627776 % 256 = ((m / 1099511627776 % 256 : Nat) : Int)) := by show _ = _; omega
            have OW : Hid (Own base wr _ bb) := ⟨hown, by rw [← unhide HBB]; exact unhide HB⟩
            clear hown
            go_wp2_with (at_builtin; refine Ww.wpList_byte rfl (.tmp 18) (.tmp 24) rfl base _ bb rfl (unhide OW) (m / 1099511627776 % 256) (by omega) _ (unhide HE) rfl (by omega) s1 ?_)
            intro v2 w2 o2 k2
            have O2 := hide o2
            have K2 := hide ((unhide HON).trans k2)
            clear o2 k2 OW
            go_wp2
            go_roundg 5
            case measure => have := unhide HG; omega
            case rel => exact ⟨3, by omega, rfl, by first | rfl | simp, by rw [show bk ++ (be8 m).take 3 = (bk ++ (be8 m).take 2) ++ [m / 1099511627776 % 256] by rw [List.append_assoc]; rfl, unhide HBB]; exact unhide O2, unhide K2⟩
          · obtain ⟨bb, hbb⟩ : ∃ bb, bk ++ (be8 m).take 3 = bb := ⟨_, rfl⟩
            rw [hbb] at hown hlen
            have HBB := hide hbb
            clear hbb h8 hj
            have HE : Hid ((m : Int) / 4294967296 % 256 = ((m / 4294967296 % 256 : Nat) : Int)) := by show _ = _; omega
            have OW : Hid (Own base wr _ bb) := ⟨hown, by rw [← unhide HBB]; exact unhide HB⟩
            clear hown
            go_wp2_with (at_builtin; refine Ww.wpList_byte rfl (.tmp 18) (.tmp 24) rfl base _ bb rfl (unhide OW) (m / 4294967296 % 256) (by omega) _ (unhide HE) rfl (by omega) s1 ?_)
            intro v2 w2 o2 k2
            have O2 := hide o2
            have K2 := hide ((unhide HON).trans k2)
            clear o2 k2 OW
            go_wp2
            go_roundg 4
            case measure => have := unhide HG; omega
            case rel => exact ⟨4, by omega, rfl, by first | rfl | simp, by rw [show bk ++ (be8 m).take 4 = (bk ++ (be8 m).take 3) ++ [m / 4294967296 % 256] by rw [List.append_assoc]; rfl, unhide HBB]; exact unhide O2, unhide K2⟩
          · obtain ⟨bb, hbb⟩ : ∃ bb, bk ++ (be8 m).take 4 = bb := ⟨_, rfl⟩
            rw [hbb] at hown hlen
            have HBB := hide hbb
            clear hbb h8 hj
            have HE : Hid ((m : Int) / 16777216 % 256 = ((m / 16777216 % 256 : Nat) : Int)) := by show _ = _; omega
            have OW : Hid (Own base wr _ bb) := ⟨hown, by rw [← unhide HBB]; exact unhide HB⟩
            clear hown
            go_wp2_with (at_builtin; refine Ww.wpList_byte rfl (.tmp 18) (.tmp 24) rfl base _ bb rfl (unhide OW) (m / 16777216 % 256) (by omega) _ (unhide HE) rfl (by omega) s1 ?_)
            intro v2 w2 o2 k2
            have O2 := hide o2
            have K2 := hide ((unhide HON).trans k2)
            clear o2 k2 OW
            go_wp2
            go_roundg 3
            case measure => have := unhide HG; omega
            case rel => exact ⟨5, by omega, rfl, by first | rfl | simp, by rw [show bk ++ (be8 m).take 5 = (bk ++ (be8 m).take 4) ++ [m / 16777216 % 256] by rw [List.append_assoc]; rfl, unhide HBB]; exact unhide O2, unhide K2⟩
          · obtain ⟨bb, hbb⟩ : ∃ bb, bk ++ (be8 m).take 5 = bb := ⟨_, rfl⟩
            rw [hbb] at hown hlen
            have HBB := hide hbb
            clear hbb h8 hj
            have HE : Hid ((m : Int) / 65536 % 256 = ((m / 65536 % 256 : Nat) : Int)) := by show _ = _; omega
            have OW : Hid (Own base wr _ bb) := ⟨hown, by rw [← unhide HBB]; exact unhide HB⟩
            clear hown
            go_wp2_with (at_builtin; refine Ww.wpList_byte rfl (.tmp 18) (.tmp 24) rfl base _ bb rfl (unhide OW) (m / 65536 % 256) (by omega) _ (unhide HE) rfl (by omega) s1 ?_)
            intro v2 w2 o2 k2
            have O2 := hide o2
            have K2 := hide ((unhide HON).trans k2)
            clear o2 k2 OW
            go_wp2
            go_roundg 2
            case measure => have := unhide HG; omega
            case rel => exact ⟨6, by omega, rfl, by first | rfl | simp, by rw [show bk ++ (be8 m).take 6 = (bk ++ (be8 m).take 5) ++ [m / 65536 % 256] by rw [List.append_assoc]; rfl, unhide HBB]; exact unhide O2, unhide K2⟩
          · obtain ⟨bb, hbb⟩ : ∃ bb, bk ++ (be8 m).take 6 = bb := ⟨_, rfl⟩
            rw [hbb] at hown hlen
            have HBB := hide hbb
            clear hbb h8 hj
            have HE : Hid ((m : Int) / 256 % 256 = ((m / 256 % 256 : Nat) : Int)) := by show _ = _; omega
            have OW : Hid (Own base wr _ bb) := ⟨hown, by rw [← unhide HBB]; exact unhide HB⟩
            clear hown
            go_wp2_with (at_builtin; refine Ww.wpList_byte rfl (.tmp 18) (.tmp 24) rfl base _ bb rfl (unhide OW) (m / 256 % 256) (by omega) _ (unhide HE) rfl (by omega) s1 ?_)
            intro v2 w2 o2 k2
            have O2 := hide o2
            have K2 := hide ((unhide HON).trans k2)
            clear o2 k2 OW
            go_wp2
            go_roundg 1
            case measure => have := unhide HG; omega
            case rel => exact ⟨7, by omega, rfl, by first | rfl | simp, by rw [show bk ++ (be8 m).take 7 = (bk ++ (be8 m).take 6) ++ [m / 256 % 256] by rw [List.append_assoc]; rfl, unhide HBB]; exact unhide O2, unhide K2⟩
          · obtain ⟨bb, hbb⟩ : ∃ bb, bk ++ (be8 m).take 7 = bb := ⟨_, rfl⟩
            rw [hbb] at hown hlen
            have HBB := hide hbb
            clear hbb h8 hj
            have HE : Hid ((m : Int) % 256 = ((m % 256 : Nat) : Int)) := by show _ = _; omega
            have OW : Hid (Own base wr _ bb) := ⟨hown, by rw [← unhide HBB]; exact unhide HB⟩
            clear hown
            go_wp2_with (at_builtin; refine Ww.wpList_byte rfl (.tmp 18) (.tmp 24) rfl base _ bb rfl (unhide OW) (m % 256) (by omega) _ (unhide HE) rfl (by omega) s1 ?_)
            intro v2 w2 o2 k2
            have O2 := hide o2
            have K2 := hide ((unhide HON).trans k2)
            clear o2 k2 OW
            go_wp2
            go_roundg 0
            case measure => have := unhide HG; omega
            case rel => exact ⟨8, by omega, rfl, by first | rfl | simp, by rw [show bk ++ (be8 m).take 8 = (bk ++ (be8 m).take 7) ++ [m % 256] by rw [List.append_assoc]; rfl, unhide HBB]; exact unhide O2, unhide K2⟩
    · obtain rfl : k = n := by omega
      have HOB := hide ho
      clear ho hko
      go_wp2
      go_ret
      have ho := unhide HOB
      rw [List.take_of_length_le (by rw [unhide HN]; exact Nat.le_refl _)] at ho
      exact ⟨_, rfl, ho, unhide HK⟩
end Go.Proofs.YtgllokinadjiaaaGreatDoor
namespace Go.Proofs.YtgllokinadjiaaaGreatDoor
open Go.RowKit Go.Maps
open Ww (Own KO nums told putConfig confBytes)

/-- the bytes of a generation, and of several. -/
def genBytes (g : Gn) : List Nat := nums [g.n, g.eng, g.base] ++ confBytes [] g.ms
def saveBytes (gs : List Gn) : List Nat := [gs.length] ++ (gs.map genBytes).flatten
theorem genBytes_len (g : Gn) : (genBytes g).length = 26 + 8 * g.ms.length := by
  simp only [genBytes, confBytes, List.length_append, Ww.nums_len, List.length_cons, List.length_nil]
  omega
theorem told_conf {ms : List Int} (h : ms.length ≤ 7) : told (putConfig [] ms ([], 0)) = confBytes [] ms ∧ (putConfig [] ms ([], 0)).2 = 0 := by
  rw [Ww.putConfig_ok (by decide) (by unfold Ww.refuse Ww.rule; simp; omega)]
  exact ⟨by simp [told], rfl⟩
/-- members that lie in older memory stay. -/
theorem ints_stay {w : World} {ao : Option Addr} {ys : List Int} (h : IntsR w ao ys) (ts : List TypeId) : ∀ b w1, b ≤ w1.heap.size → w.heap.size ≤ b → Below w.heap.size w w1 → Ww.Ints b ts w1 ao ys := fun b w1 _ hb hB i hi => by
  obtain ⟨a, e, hc⟩ := h i hi
  have hl := blk_lt hc
  rw [add_block] at hl
  exact ⟨a, e, (hB.cell (blk_lt hc)).trans hc, Or.inl (by omega)⟩
/-- append of bytes. -/
theorem wpList_appB {w : World} {ops : Array Oper} {rest : List Oper} {o : Oper} {a : Act} {Q : Exit → Act → World → Prop} (hgd : o.guard = none) (s x : Operand)
    (ho : o.op = .call { callee := .builtin .append, args := #[s, x], argTypes := #[53, 53] }) (base : Nat) (v : Value) (bs : List Nat) (hs : a.eval s = v) (hown : Own base w v bs)
    (ad : Addr) (m c : Nat) (ys : List Nat) (hx : a.eval x = .slice (some ad) m c) (hm : ys.length = m) (hy : Ww.Bytes w (some ad) ys) (hl : bs.length + m ≤ 1000000000) (hb : base ≤ w.heap.size)
    (h : ∀ v' w', Own base w' v' (bs ++ ys) → KO base v v' w w' → wpList Tryz.prog ops Q rest (a.put o.dst v') w') : wpList Tryz.prog ops Q (o :: rest) a w := by
  obtain ⟨i0, hi, hz0, hz1, hz2⟩ := info_parts Ww.Tryz.info5
  refine wpList_plain hgd fun K hK => ?_
  obtain ⟨v', w', hr, own', g', _, hat⟩ := run_append_own_at (P := Tryz.prog) w base 53 o.type 5 i0 (.int .u8 0) 1 1 Tryz.underlying53 hi hz0 hz1 hz2 rfl (by decide) v bs.length (Ww.u8s bs) hown.1 ad m c (Ww.u8s ys) (by rw [Ww.u8s, List.length_map, hm]; omega)
    (fun j u hj => by
      rw [Ww.u8s, List.getElem?_map] at hj
      cases hq : ys[j]? with
      | none => rw [hq] at hj; simp at hj
      | some z =>
        rw [hq] at hj; simp at hj; subst hj
        obtain ⟨a', e, hcell⟩ := hy.2 j (List.getElem?_eq_some_iff.1 hq).1
        cases e
        rw [hcell, List.getD_eq_getElem?_getD, hq]; rfl)
    (Ww.u8s_one ys) (by unfold maxLen; omega) (by omega) hb
  unfold Oper.wp execOp
  simp only [ho, resolve, invoke, builtin, Sem.run_bind, Sem.run_pure, Result.andThen_ok, List.map_toArray, List.map_cons, List.map_nil, hs, hx, hr]
  refine hK _ _ (h v' w' ⟨?_, ?_⟩ (Ww.ko_append hown.1 g' hb hat))
  · rw [List.length_append, hm, show Ww.u8s (bs ++ ys) = Ww.u8s bs ++ Ww.u8s ys by simp [Ww.u8s]]; exact own'
  · intro z hz
    rcases List.mem_append.1 hz with hz | hz
    · exact hown.2 z hz
    · exact hy.1 z hz
theorem own_one (w : World) (n : Nat) (hn : n < 256) : Own w.heap.size (w.alloc (.cells #[.int .u8 (n : Int)] 5)) (.slice (some ⟨w.heap.size, 0, none⟩) 1 1) [n] :=
  ⟨⟨rfl, Or.inr ⟨w.heap.size, 1, _, rfl, Nat.le_refl _, box_at _ _, Nat.le_refl _, by decide, rfl, rfl⟩⟩, by intro x hx; simp at hx; omega⟩
theorem ints3 (w : World) (x y z : Int) : IntsR (w.alloc (.cells #[.int .i64 x, .int .i64 y, .int .i64 z] 3)) (some ⟨w.heap.size, 0, none⟩) [x, y, z] := fun i hi => by
  refine ⟨_, rfl, ?_⟩
  rw [Addr.add_lit, cell_of_block (box_at w _)]
  have : i = 0 ∨ i = 1 ∨ i = 2 := by simp at hi; omega
  rcases this with rfl | rfl | rfl <;> rfl

set_option maxRecDepth 20000 in
set_option maxHeartbeats 8000000 in
theorem save_any {D : Nat → Prop} {w : World} {p : Nat} {gs : List Gn} (h : Gs D w p gs) {n : Nat} (hn : gs.length = n) (hl : n < 256) (hms : ∀ g ∈ gs, g.ms.length ≤ 7) (hS : Ww.Start w) :
    Calls Tryz.prog 22 #[.pointer (some ⟨p, 0, none⟩)] w fun e w' => ∃ v, e = .returned v ∧ Own w.heap.size w' v (saveBytes gs) ∧ Below w.heap.size w w' := by
  obtain ⟨⟨rv, hbx, hrr⟩, hDp, hlt⟩ := h
  obtain ⟨ao, ca, rfl, -, hcm, -⟩ := hrr.slice
  rw [hn] at hbx hrr
  obtain ⟨W, hW⟩ : ∃ W, w.alloc (.cells #[.int .u8 (n : Int)] 5) = W := ⟨_, rfl⟩
  have bW : Below w.heap.size w W := by rw [← hW]; exact (Below.refl _ w).alloc (Nat.le_refl _) _
  have oW : Own w.heap.size W (.slice (some ⟨w.heap.size, 0, none⟩) 1 1) [n] := by rw [← hW]; exact own_one w n hl
  have pc : w.cell? ⟨p, 0, none⟩ = some (.slice ao n ca) := (cell_of_block hbx).trans rfl
  have pcW : W.cell? ⟨p, 0, none⟩ = some (.slice ao n ca) := (bW.cell (blk_lt pc)).trans pc
  have hu8 : IntKind.u8.wrap (n : Int) = (n : Int) := by rw [IntKind.wrap_u8]; omega
  have HR := hide hrr
  have HN := hide hn
  have HMS := hide hms
  have HS := hide hS
  have HW := hide hW
  have BW := hide bW
  have OW := hide oW
  clear hbx hrr hDp hlt hn hW bW oW hms hS
  go_enter Tryz.func22, Tryz.ntmps22
  go_upto_region 2 with fail
  rw [unhide HW]
  clear pc
  go_wp2
  go_loopw [20, 5, 3, 6, 7] (fun i _ bv _ _ wr => ∃ k : Nat, k ≤ n ∧ i = .int .i64 k ∧ Own w.heap.size wr bv ([n] ++ ((gs.take k).map genBytes).flatten) ∧ Below w.heap.size w wr) (fun i _ _ _ _ _ => n - (intOf i).toNat)
  case atStart => exact ⟨0, Nat.zero_le _, rfl, by simpa using unhide OW, unhide BW⟩
  case round =>
    obtain ⟨k, hk, rfl, ho, hb⟩ := hrel
    by_cases hlt : k < n
    · obtain ⟨g, hg⟩ : ∃ g, gs[k]? = some g := ⟨_, List.getElem?_eq_getElem (by rw [unhide HN]; exact hlt)⟩
      obtain ⟨b, mo, mc, rfl, hDb, c0w, c1w, c2w, c3w, c4w, o4, d4, l4⟩ := (unhide HR).at hg
      obtain ⟨ao', ca', e, hfr, -⟩ := o4.slice
      cases e
      have h7 := unhide HMS g (List.mem_of_getElem? hg)
      obtain ⟨y, hy⟩ : ∃ y, g.ms.length = y := ⟨_, rfl⟩
      rw [hy] at c4w o4
      have c0 := (hb.cell (blk_lt c0w)).trans c0w
      have c1 := (hb.cell (blk_lt c1w)).trans c1w
      have c2 := (hb.cell (blk_lt c2w)).trans c2w
      have c3 := (hb.cell (blk_lt c3w)).trans c3w
      have c4 := (hb.cell (blk_lt c4w)).trans c4w
      obtain ⟨W1, hW1, b1, x1⟩ := boxG wr g.n g.eng g.base none mo 0 0 y mc
      obtain ⟨W2, hW2⟩ : ∃ W, W1.alloc (.cells #[.int .i64 g.n, .int .i64 g.eng, .int .i64 g.base] 3) = W := ⟨_, rfl⟩
      have b2 : Below W1.heap.size W1 W2 := by rw [← hW2]; exact (Below.refl _ _).alloc (Nat.le_refl _) _
      have i2 : IntsR W2 (some ⟨W1.heap.size, 0, none⟩) [g.n, g.eng, g.base] := by rw [← hW2]; exact ints3 W1 _ _ _
      have s2 : W1.heap.size < W2.heap.size := by rw [← hW2]; simp
      obtain ⟨bk, hbk⟩ : ∃ bk, [n] ++ ((gs.take k).map genBytes).flatten = bk := ⟨_, rfl⟩
      rw [hbk] at ho
      have HQ : Hid ([n] ++ ((gs.take (k + 1)).map genBytes).flatten = bk ++ (nums [g.n, g.eng, g.base] ++ confBytes [] g.ms)) := hide (by
        rw [take_succ gs g k (by rw [unhide HN]; exact hlt), List.map_append, List.flatten_append, ← List.append_assoc, hbk, List.getD_eq_getElem?_getD, hg]
        simp [genBytes])
      have hbl : bk.length ≤ 1 + 100 * k := by
        rw [← hbk, List.length_append, List.length_singleton]
        have : ∀ (l : List Gn), (∀ g ∈ l, g.ms.length ≤ 7) → ((l.map genBytes).flatten).length ≤ 100 * l.length := fun l => by
          induction l with
          | nil => intro _; simp
          | cons g l ih =>
            intro hl
            have h1 := ih (fun x hx => hl x (by simp [hx]))
            have h2 := hl g (by simp)
            simp only [List.map_cons, List.flatten_cons, List.length_append, genBytes_len, List.length_cons]
            omega
        have h1 := this (gs.take k) (fun g hg => unhide HMS g (List.mem_of_mem_take hg))
        rw [List.length_take] at h1
        omega
      have ho2 : Own w.heap.size W2 _ bk := ⟨own_below (own_below ho.1 b1) b2, ho.2⟩
      have hbv : ∀ q, _ = some q → q < wr.heap.size := fun q hq => (ho.1.lt q hq).2
      have CI := appendInts_any w.heap.size _ bk 3 3 [g.n, g.eng, g.base] ⟨W1.heap.size, 0, none⟩ rfl W2 ho2 (by omega) (Nat.le_trans hb.size (below_far b1 b2).size) i2 (fun e => by have h1 := hbv _ e; have h2 := b1.size; simp at h1; omega) s2
      have HBV := hide hbv
      have CI' := hide CI
      have K0 : ∀ i u, (#[Value.int .i64 g.n, .int .i64 g.eng, .int .i64 g.base, .slice none 0 0, .slice mo y mc])[i]? = some u → W1.cell? ⟨wr.heap.size, i, none⟩ = some u := fun i u hu => (cell_of_block x1).trans hu
      have k0 := K0 0 _ rfl
      have k1 := K0 1 _ rfl
      have k2 := K0 2 _ rfl
      have X2 := hide (Below.stay b2 x1)
      have B2 := hide (below_far b1 b2)
      have BW2 := hide (And.intro hb (below_far b1 b2))
      have HI := hide hfr.1
      have HY := hide (And.intro hy h7)
      have HBL := hide hbl
      have HW1 := hide hW1
      have HW2 := hide hW2
      have q1 : (k : Int) < (n : Int) := by omega
      have q0 : (0 : Int) ≤ (k : Int) := by omega
      clear c0w c1w c2w c3w c4w ho hb hg hDb o4 d4 l4 hfr hy hW1 b1 x1 hW2 b2 i2 s2 hbk hbl ho2 hbv CI K0 h7
      go_upto_region 5 with fail
      rw [unhide HW1]
      clear c0 c1 c2 c3 c4
      go_wp2_with fail
      rw [unhide HW2]
      refine (unhide CI').mono ?_
      rintro e w3 ⟨v3, rfl, o3, ko3⟩
      have hx3 : w3.heap[wr.heap.size]? = some (.cells #[.int .i64 g.n, .int .i64 g.eng, .int .i64 g.base, .slice none 0 0, .slice mo y mc] 26 (0, 0)) := (ko3.block (heap_lt (unhide X2)) (fun e => Nat.lt_irrefl _ (unhide HBV _ e))).trans (unhide X2)
      have bw3 : Below w.heap.size w w3 := ((unhide BW2).1.trans ((unhide BW2).2.mono (unhide BW2).1.size)).trans ko3.below
      have k3 : w3.cell? ⟨wr.heap.size, 3, none⟩ = some (.slice none 0 0) := (cell_of_block hx3).trans rfl
      have k4 : w3.cell? ⟨wr.heap.size, 4, none⟩ = some (.slice mo y mc) := (cell_of_block hx3).trans rfl
      have CE := Ww.encodeConfig_any none mo 0 y 0 mc [] g.ms rfl (unhide HY).1 w3 (fun b w1 _ _ _ i hi => by simp at hi) (ints_stay ((unhide HI).below bw3) _) ((unhide HS).upto bw3 (unhide HS).2.2)
      rw [(told_conf (unhide HY).2).1, (told_conf (unhide HY).2).2] at CE
      have CE' := hide CE
      have O3 := hide o3
      have B3 := hide bw3
      clear hx3 bw3 o3 ko3 CE CI' k0 k1 k2
      go_wp2_with fail
      refine (unhide CE').mono ?_
      rintro e w4 ⟨v4, rfl, o4, b4⟩
      have ho4 : Own w.heap.size w4 v3 (bk ++ nums [g.n, g.eng, g.base]) := ⟨own_below (unhide O3).1 b4, (unhide O3).2⟩
      obtain ⟨ao4, cp4, rfl, -, -, by4, -, -⟩ := o4.slice
      obtain ⟨ad4, rfl⟩ : ∃ ad, ao4 = some ad := by
        obtain ⟨a, e, -⟩ := by4.2 0 (by simp [confBytes])
        exact ⟨a, e⟩
      obtain ⟨ao5, cp5, rfl, -⟩ := ho4.slice
      obtain ⟨c, hc⟩ : ∃ c, (confBytes [] g.ms).length = c := ⟨_, rfl⟩
      obtain ⟨d, hd⟩ : ∃ d, (bk ++ nums [g.n, g.eng, g.base]).length = d := ⟨_, rfl⟩
      have hdl : d + c ≤ 1000000000 := by
        rw [← hd, ← hc, List.length_append, Ww.nums_len]
        have h1 := unhide HBL
        have h2 : (confBytes [] g.ms).length = 2 + 8 * g.ms.length := by simp only [confBytes, List.length_append, Ww.nums_len, List.length_cons, List.length_nil]; omega
        have h3 := (unhide HY).2
        simp only [List.length_cons, List.length_nil]
        omega
      rw [hc, hd]
      rw [hd] at ho4
      have HO4 := hide ho4
      have HBY := hide by4
      have HCC := hide hc
      have B4 := hide ((unhide B3).trans (b4.mono (unhide B3).size))
      have HL : Hid ((bk ++ nums [g.n, g.eng, g.base]).length + c ≤ 1000000000) := hide (by rw [hd]; exact hdl)
      clear ho4 by4 o4 b4 hc hd hdl CE' k3 k4
      go_wp2_with (refine wpList_appB rfl (.tmp 39) (.tmp 40) rfl w.heap.size (.slice ao5 d cp5) (bk ++ nums [g.n, g.eng, g.base]) rfl (unhide HO4) ad4 c cp4 (confBytes [] g.ms) rfl (unhide HCC) (unhide HBY) (unhide HL) (unhide B4).size ?_)
      intro v5 w5 o5 k5
      have O5 := hide o5
      have B5 := hide ((unhide B4).trans k5.below)
      clear o5 k5
      go_wp2
      go_roundw
      case rel => exact ⟨k + 1, by omega, by go_num, by rw [unhide HQ]; first | exact unhide O5 | (rw [← List.append_assoc]; exact unhide O5), unhide B5⟩
      case measure => simp [intOf]; omega
    · obtain rfl : k = n := by omega
      have HO := hide ho
      have HB := hide hb
      clear ho hb
      go_wp2
      go_ret
      have ho := unhide HO
      rw [List.take_of_length_le (by rw [unhide HN]; exact Nat.le_refl _)] at ho
      exact ⟨_, rfl, by unfold saveBytes; rw [unhide HN]; exact ho, unhide HB⟩
end Go.Proofs.YtgllokinadjiaaaGreatDoor
namespace Go.Proofs.YtgllokinadjiaaaGreatDoor
open Go.RowKit Go.Maps
open Ww (nums num8 confBytes configR configR_reads whole_told fix_self fix rconfig rend refuse nums_len num8_len)

def Gn.pg (g : Gn) : Pg := ⟨g.n, g.eng, g.base, [], g.ms⟩
theorem Gn.pg_gn (g : Gn) : g.pg.gn = g := rfl
def in64 (y : Int) : Prop := -9223372036854775808 ≤ y ∧ y < 9223372036854775808
/-- what may be saved: few members, all numbers ints. -/
structure Gn.ok (g : Gn) : Prop where
  n : in64 g.n
  eng : in64 g.eng
  base : in64 g.base
  ms : ∀ y ∈ g.ms, in64 y
  few : g.ms.length ≤ 7
theorem heads_len (g : Gn) : (nums [g.n, g.eng, g.base]).length = 24 := by rw [nums_len]; rfl
theorem conf_len (ms : List Int) : (confBytes [] ms).length = 2 + 8 * ms.length := by
  simp only [confBytes, List.length_append, nums_len, List.length_cons, List.length_nil]; omega
theorem drop24 (g : Gn) (rest : List Nat) : (genBytes g ++ rest).drop 24 = confBytes [] g.ms ++ rest := by
  unfold genBytes
  rw [List.append_assoc, ← heads_len g, List.drop_left]
theorem conf_cons (ms : List Int) (rest : List Nat) : confBytes [] ms ++ rest = 0 :: ms.length :: (nums ms ++ rest) := by
  simp [confBytes, nums]
theorem cfg_conf (ms : List Int) (rest : List Nat) : cfgSize (confBytes [] ms ++ rest) = 2 + 8 * ms.length := by
  have hl : (confBytes [] ms ++ rest).length = 2 + 8 * ms.length + rest.length := by rw [List.length_append, conf_len]
  have s0 : cfgStep (confBytes [] ms ++ rest) 0 = 1 := by
    unfold cfgStep
    rw [hl, if_pos (by omega), conf_cons]
    simp only [List.getD_cons_zero, Nat.mul_zero, Nat.zero_add, Nat.add_zero]
    omega
  unfold cfgSize
  rw [s0]
  unfold cfgStep
  rw [hl, if_pos (by omega), conf_cons]
  simp only [List.getD_cons_succ, List.getD_cons_zero]
  omega
theorem one_cfg (g : Gn) (rest : List Nat) : oneCfg (genBytes g ++ rest) = confBytes [] g.ms := by
  unfold oneCfg
  rw [drop24, cfg_conf, ← conf_len, List.take_left]
theorem reads_conf {ms : List Int} (h : ms.length ≤ 7) : Ww.Reads configR (confBytes [] ms) ([], ms.map fix) := by
  have := configR_reads (xs := []) (ys := ms) (by decide) (by unfold refuse Ww.rule; simp; omega)
  simpa using this
theorem map_fix {ms : List Int} (h : ∀ y ∈ ms, in64 y) : ms.map fix = ms := by
  conv => rhs; rw [← List.map_id ms]
  exact List.map_congr_left fun y hy => fix_self (h y hy).1 (h y hy).2
theorem one_err {g : Gn} (h : g.ok) (rest : List Nat) : oneErr (genBytes g ++ rest) = 0 := by
  have hw := (whole_told (reads_conf h.few)).2
  rw [conf_len] at hw
  unfold oneErr
  rw [one_cfg, drop24, cfg_conf, if_neg (by rw [List.length_append, genBytes_len]; omega)]
  exact hw
theorem one_size (g : Gn) (rest : List Nat) : oneSize (genBytes g ++ rest) = (genBytes g).length := by
  unfold oneSize; rw [drop24, cfg_conf, genBytes_len]; omega
theorem int8_at (pre c rest : List Nat) (y : Int) (j : Nat) (hp : pre.length = 8 * j) (hc : c = num8 y) (h : in64 y) : int8 (pre ++ c ++ rest) j = y := by
  unfold int8
  rw [← hp, List.append_assoc, List.drop_left, show 8 = c.length by rw [hc, num8_len], List.take_left, hc]
  exact Ww.num8_join h.1 h.2
theorem one_pg {g : Gn} (h : g.ok) (rest : List Nat) : onePg (genBytes g ++ rest) = g.pg := by
  have hw := (whole_told (reads_conf h.few)).1
  have hw' : rconfig (confBytes [] g.ms) (0, 0) = (([], g.ms.map fix), ((confBytes [] g.ms).length, 0)) := hw
  have e : genBytes g ++ rest = num8 g.n ++ (num8 g.eng ++ (num8 g.base ++ (confBytes [] g.ms ++ rest))) := by
    unfold genBytes; simp [nums]
  have i0 : int8 (genBytes g ++ rest) 0 = g.n := by
    rw [e]; exact int8_at [] (num8 g.n) _ g.n 0 rfl rfl h.n
  have i1 : int8 (genBytes g ++ rest) 1 = g.eng := by
    rw [e, ← List.append_assoc]; exact int8_at (num8 g.n) (num8 g.eng) _ g.eng 1 (num8_len _) rfl h.eng
  have i2 : int8 (genBytes g ++ rest) 2 = g.base := by
    rw [e, ← List.append_assoc, ← List.append_assoc]; exact int8_at (num8 g.n ++ num8 g.eng) (num8 g.base) _ g.base 2 (by rw [List.length_append, num8_len, num8_len]) rfl h.base
  unfold onePg
  rw [one_cfg, hw', i0, i1, i2]
  simp only [map_fix h.ms]
  rfl
theorem parseN_saved : ∀ (gs : List Gn) (_ : ∀ g ∈ gs, g.ok) (rest : List Nat), parseN gs.length ((gs.map genBytes).flatten ++ rest) = (gs.map Gn.pg, 0, rest)
  | [], _, rest => by simp [parseN]
  | g :: gs, h, rest => by
    have hg := h g (by simp)
    rw [List.map_cons, List.flatten_cons, List.append_assoc, List.length_cons, parseN_ok (one_err hg _), one_size, List.drop_left, parseN_saved gs (fun x hx => h x (by simp [hx])) rest, one_pg hg]
    rfl
/-- what Save writes is parsed as it was. -/
theorem parse_saved {gs : List Gn} (h : ∀ g ∈ gs, g.ok) : parseOf (saveBytes gs) = (gs.map Gn.pg, 0) := by
  have hs : saveBytes gs = gs.length :: (gs.map genBytes).flatten := rfl
  have hp := parseN_saved gs h []
  rw [List.append_nil] at hp
  unfold parseOf
  rw [hs, if_neg (by simp)]
  simp only [List.getD_cons_zero, List.drop_succ_cons, List.drop_zero, hp]
  simp
end Go.Proofs.YtgllokinadjiaaaGreatDoor
