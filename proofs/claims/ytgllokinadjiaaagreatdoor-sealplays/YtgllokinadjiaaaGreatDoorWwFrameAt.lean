/- wire.frameAt: a contract. wire.frameAt in one, bytes.Clone, wire.Split: contracts. synodallaw2.within, synodallaw2.known: contracts; what the listed variables give. wire's writer: the rule of a byte, and a byte that is laid or refused: contracts. -/
import Derived.Test.YtgllokinadjiaaaGreatDoorWwSplit
import Derived.BigQuiet
import Derived.Deep.QuietTactic
import Derived.Lib.SlBytesConst
import Derived.Test.YtgllokinadjiaaaGreatDoorWwNum
namespace Go.Proofs.YtgllokinadjiaaaGreatDoor.Ww
open Go.RowKit

end Go.Proofs.YtgllokinadjiaaaGreatDoor.Ww
namespace Go.Proofs.YtgllokinadjiaaaGreatDoor.Ww
open Go.RowKit

theorem drewN_below (w : World) (k : Nat) : Below w.heap.size w (w.drewN k) := ⟨rfl, rfl, rfl, Nat.le_refl _, fun _ _ => rfl⟩
theorem flaw_err {w : World} {p : Value} {n : Nat} (hn : n ≠ 0) : Err (w.alloc (.cells #[p, .iface 31 (.int .i64 (n : Int))] 155)) (.iface 153 (.pointer (some ⟨w.heap.size, 0, none⟩))) n :=
  Or.inr ⟨w.heap.size, hn, rfl, by rw [World.cell?_alloc_at _ _ _ _ (by simp)]; rfl⟩

theorem Own.below {base : Nat} {w w' : World} {v : Value} {bs : List Nat} (h : Own base w v bs) (hb : Below w.heap.size w w') : Own base w' v bs := ⟨own_below h.1 hb, h.2⟩
theorem Own.only {base base' : Nat} {ts : List TypeId} {w w' : World} {v : Value} {bs : List Nat} (h : Own base w v bs) (ho : Only base' ts w w') (ht : 5 ∉ ts) : Own base w' v bs := ⟨own_only h.1 ho ht, h.2⟩
theorem Own.rebase {base base' : Nat} {w : World} {v : Value} {bs : List Nat} (h : Own base w v bs) (hb : base' ≤ base) : Own base' w v bs := by
  refine ⟨⟨h.1.1, ?_⟩, h.2⟩
  rcases h.1.2 with h0 | ⟨g, cap, cur, e, hg, rest⟩
  · exact Or.inl h0
  · exact Or.inr ⟨g, cap, cur, e, Nat.le_trans hb hg, rest⟩

theorem Tryz.info27 : (Tryz.prog.info? 53).map (fun i => (i.zero, i.size, i.bytes)) = some (some (.slice none 0 0), 1, 24) := by kernel_rfl
/-- the values vs are slices of the call's own, of the rows xs. -/
def RowsOf (base : Nat) (w : World) (vs : List Value) (xs : List (List Nat)) : Prop := vs.length = xs.length ∧ ∀ (i : Nat) (v : Value) (x : List Nat), vs[i]? = some v → xs[i]? = some x → Own base w v x
theorem RowsOf.nil (base : Nat) (w : World) : RowsOf base w [] [] := ⟨rfl, fun i v x h => by simp at h⟩
theorem RowsOf.snoc {base : Nat} {w : World} {vs : List Value} {xs : List (List Nat)} {v : Value} {x : List Nat} (h : RowsOf base w vs xs) (ho : Own base w v x) : RowsOf base w (vs ++ [v]) (xs ++ [x]) := by
  refine ⟨by simp [h.1], fun i u y hu hy => ?_⟩
  by_cases hi : i < vs.length
  · rw [List.getElem?_append_left hi] at hu
    rw [List.getElem?_append_left (by rw [← h.1]; exact hi)] at hy
    exact h.2 i u y hu hy
  · rw [List.getElem?_append_right (by omega)] at hu
    rw [List.getElem?_append_right (by rw [← h.1]; omega)] at hy
    rw [← h.1] at hy
    cases hj : i - vs.length with
    | zero => rw [hj] at hu hy; simp at hu hy; subst hu; subst hy; exact ho
    | succ j => rw [hj] at hu; simp at hu
theorem RowsOf.kept {base : Nat} {w w' : World} {vs : List Value} {xs : List (List Nat)} (h : RowsOf base w vs xs) (hk : ∀ v x, Own base w v x → Own base w' v x) : RowsOf base w' vs xs :=
  ⟨h.1, fun i v x hv hx => hk v x (h.2 i v x hv hx)⟩
theorem one_slice (ao : Option Addr) (n c : Nat) : ∀ u ∈ [Value.slice ao n c], u.oneCell' = true := by
  intro u hu; simp only [List.mem_cons, List.not_mem_nil, or_false] at hu; subst hu; rfl
theorem splitOf_none {f : Nat} {l : List Nat} {e : Nat} (h : frameOf l = (e, none)) (hf : 0 < f) : splitOf f l = ([], 0, e) := by
  cases f with
  | zero => omega
  | succ f => simp only [splitOf, h]
theorem splitOf_some {f : Nat} {l x : List Nat} {e : Nat} (h : frameOf l = (e, some x)) : splitOf (f + 1) l = (x :: (splitOf f (l.drop (8 + x.length))).1, 8 + x.length + (splitOf f (l.drop (8 + x.length))).2.1, (splitOf f (l.drop (8 + x.length))).2.2) := by
  simp only [splitOf, h]

/-- what Split has done when it stands at at'. -/
def Done (bs : List Nat) (done : List (List Nat)) (at' : Nat) : Prop :=
  ∃ fu, bs.length - at' < fu ∧ splitOf (bs.length + 1) bs = (done ++ (splitOf fu (bs.drop at')).1, at' + (splitOf fu (bs.drop at')).2.1, (splitOf fu (bs.drop at')).2.2)
theorem Done.start (bs : List Nat) : Done bs [] 0 := ⟨bs.length + 1, by omega, by simp⟩
theorem Done.stop {bs : List Nat} {done : List (List Nat)} {at' e : Nat} (h : Done bs done at') (hf : frameOf (bs.drop at') = (e, none)) : splitOf (bs.length + 1) bs = (done, at', e) := by
  obtain ⟨fu, h1, h2⟩ := h
  rw [h2, splitOf_none hf (by omega)]; simp
theorem Done.step {bs : List Nat} {done : List (List Nat)} {at' e : Nat} {x : List Nat} (h : Done bs done at') (hf : frameOf (bs.drop at') = (e, some x)) (hl : at' + (8 + x.length) ≤ bs.length) : Done bs (done ++ [x]) (at' + (8 + x.length)) := by
  obtain ⟨fu, h1, h2⟩ := h
  obtain ⟨f, rfl⟩ : ∃ f, fu = f + 1 := ⟨fu - 1, by omega⟩
  refine ⟨f, by omega, ?_⟩
  rw [h2, splitOf_some hf, List.drop_drop]
  simp only [List.append_assoc, List.cons_append, List.nil_append, Prod.mk.injEq, and_true, true_and]
  omega

end Go.Proofs.YtgllokinadjiaaaGreatDoor.Ww
namespace Go.Proofs.YtgllokinadjiaaaGreatDoor.Ww
open Go.RowKit

/-- what the listed variables hold, and that they lie ahead of all else. -/
def Start (w : World) : Prop := Table w ∧ Glob w ∧ 1 ≤ w.heap.size
theorem Start.below {w w' : World} (h : Start w) (hb : Below w.heap.size w w') : Start w' :=
  ⟨h.1.below hb (by have := h.2.2; omega), h.2.1.below hb (by have := h.2.2; omega), Nat.le_trans h.2.2 hb.size⟩
theorem Start.upto {base : Nat} {w w' : World} (h : Start w) (hb : Below base w w') (hz : 1 ≤ base) : Start w' :=
  ⟨h.1.below hb (by omega), h.2.1.below hb (by omega), Nat.le_trans h.2.2 hb.size⟩
theorem bytes_new (w : World) (bs : List Nat) (h : ∀ x ∈ bs, x < 256) (t : TypeId) (fr : Nat × Nat) : Bytes (w.alloc (.cells (u8s bs).toArray t fr)) (some ⟨w.heap.size, 0, none⟩) bs := by
  refine ⟨h, fun i hi => ⟨_, rfl, ?_⟩⟩
  rw [Addr.add_lit]
  have e : (w.alloc (.cells (u8s bs).toArray t fr)).heap[w.heap.size]? = some (.cells (u8s bs).toArray t fr) := heap_alloc_new _ _
  simp only [World.cell?, e]
  simp [u8s, List.getD_eq_getElem?_getD, List.getElem?_eq_getElem hi]

end Go.Proofs.YtgllokinadjiaaaGreatDoor.Ww
namespace Go.Proofs.YtgllokinadjiaaaGreatDoor.Ww
open Go.RowKit

/-- what may stand in a byte: from, to, and the number by which another is refused. -/
def rule : Nat → Nat × Nat × Nat
  | 0 => (0, 4, 3)
  | 1 => (0, 2, 3)
  | 2 => (1, 15, 3)
  | 3 => (0, 1, 12)
  | 4 => (0, 16, 5)
  | 5 => (0, 9, 4)
  | _ => (0, 64, 4)
def refuse (p : Nat) (n : Int) : Nat := if n < (rule p).1 ∨ ((rule p).2.1 : Int) < n then (rule p).2.2 else 0

set_option maxHeartbeats 1000000 in
theorem refusal_any (p : Nat) (hp : p < 7) (n : Int) (w : World) :
    Calls Tryz.prog 80 #[.int .i64 p, .int .i64 n] w fun e w' => e = .returned (.int .i64 ((refuse p n : Nat) : Int)) ∧ w' = w := by
  have hc : p = 0 ∨ p = 1 ∨ p = 2 ∨ p = 3 ∨ p = 4 ∨ p = 5 ∨ p = 6 := by omega
  rcases hc with rfl | rfl | rfl | rfl | rfl | rfl | rfl
  all_goals
    clear hp
    unfold refuse rule
    go_enter Tryz.func80, Tryz.ntmps80
    go_wp2
    all_goals
      go_ret
      refine ⟨ret_int ?_, rfl⟩
      first
        | rfl
        | omega
        | (rw [if_pos (by omega)]; rfl)
        | (rw [if_neg (by omega)]; rfl)

/-- the error of a writer or a reader, with its block. -/
def ErrB (w : World) (ev : Value) (n : Nat) : Prop :=
  (n = 0 ∧ ev = .nilIface) ∨ ∃ (b : Nat) (x : Value), n ≠ 0 ∧ ev = .iface 153 (.pointer (some ⟨b, 0, none⟩)) ∧ w.heap[b]? = some (.cells #[x, .iface 31 (.int .i64 (n : Int))] 155 (0, 0))
theorem ErrB.err {w : World} {ev : Value} {n : Nat} (h : ErrB w ev n) : Err w ev n := by
  rcases h with h | ⟨b, x, h1, h2, h3⟩
  · exact Or.inl h
  · exact Or.inr ⟨b, h1, h2, by simp only [World.cell?, h3]; rfl⟩
theorem ErrB.only {base : Nat} {ts : List TypeId} {w w' : World} {ev : Value} {n : Nat} (h : ErrB w ev n) (ho : Only base ts w w') (ht : 155 ∉ ts) : ErrB w' ev n := by
  rcases h with h | ⟨b, x, h1, h2, h3⟩
  · exact Or.inl h
  · exact Or.inr ⟨b, x, h1, h2, ho.block h3 ht⟩
theorem ErrB.none {w : World} {ev : Value} (h : ErrB w ev 0) : ev = .nilIface := by
  rcases h with ⟨_, h⟩ | ⟨_, _, h0, _⟩
  · exact h
  · exact absurd rfl h0
/-- a writer: what it has laid, and its first flaw. -/
def Wr (base : Nat) (w : World) (p : Nat) (bs : List Nat) (er : Nat) : Prop :=
  ∃ v ev, w.heap[p]? = some (.cells #[v, ev] 117 (0, 0)) ∧ base ≤ p ∧ Own base w v bs ∧ ErrB w ev er
theorem setCell_block {w : World} {p i : Nat} {u : Value} {cs : Array Value} {t : TypeId} {fr : Nat × Nat} (h : w.heap[p]? = some (.cells cs t fr)) :
    (w.setCell ⟨p, i, none⟩ u).heap[p]? = some (.cells (cs.setIfInBounds i u) t fr) := by
  simp [World.setCell, Array.getElem?_modify, h]
theorem cell_of_block {w : World} {p i : Nat} {cs : Array Value} {t : TypeId} {fr : Nat × Nat} (h : w.heap[p]? = some (.cells cs t fr)) : w.cell? ⟨p, i, none⟩ = cs[i]? := by
  simp [World.cell?, h]
theorem free_of_block {w : World} {p i : Nat} {cs : Array Value} {t : TypeId} (h : w.heap[p]? = some (.cells cs t (0, 0))) : w.frozen? ⟨p, i, none⟩ = false := by
  simp [World.frozen?, h]

theorem ruled_err (base p q : Nat) (bs : List Nat) (er : Nat) (n : Int) (w : World) (h : Wr base w p bs er) (he : er ≠ 0) :
    Calls Tryz.prog 70 #[.pointer (some ⟨p, 0, none⟩), .int .i64 q, .int .i64 n] w fun e w' => e = .returned (.bool false) ∧ w' = w := by
  obtain ⟨v, ev, hp, hbp, ho, herr⟩ := h
  rcases herr with ⟨h0, _⟩ | ⟨b, x, _, rfl, _⟩
  · exact absurd h0 he
  have c1 : w.cell? ⟨p, 1, none⟩ = some (.iface 153 (.pointer (some ⟨b, 0, none⟩))) := (cell_of_block hp).trans rfl
  clear hp ho
  go_enter Tryz.func70, Tryz.ntmps70
  go_wp2
  go_ret
  exact ⟨rfl, rfl⟩

set_option maxHeartbeats 1000000 in
theorem ruled_bad (base p q : Nat) (hq : q < 7) (bs : List Nat) (n : Int) (w : World) (h : Wr base w p bs 0) (hbase : base ≤ w.heap.size) (hr : refuse q n ≠ 0) :
    Calls Tryz.prog 70 #[.pointer (some ⟨p, 0, none⟩), .int .i64 q, .int .i64 n] w fun e w' => e = .returned (.bool false) ∧ Wr base w' p bs (refuse q n) ∧ Only base [5, 117] w w' := by
  obtain ⟨v, ev, hp, hbp, ho, herr⟩ := h
  obtain rfl : ev = .nilIface := herr.none
  obtain ⟨aob, capb, rfl, _⟩ := ho.slice
  have c1 : w.cell? ⟨p, 1, none⟩ = some .nilIface := (cell_of_block hp).trans rfl
  have c0 : w.cell? ⟨p, 0, none⟩ = some (.slice aob bs.length capb) := (cell_of_block hp).trans rfl
  have hplt := blk_lt c0
  simp only at hplt
  have f1 : w.frozen? ⟨p, 1, none⟩ = false := free_of_block hp
  have hr' : (((refuse q n : Nat) : Int) != 0) = true := by rw [bne_iff_ne]; omega
  have HP := hide hp
  have HO := hide ho
  have HR := hide hr
  clear hp ho hr herr
  go_enter Tryz.func70, Tryz.ntmps70
  go_wp2_with (go_at_call 80; refine (refusal_any q hq n _).mono ?_; rintro e w' ⟨rfl, rfl⟩)
  go_ret
  have k1 : ∀ u, Only base [117] w' (w'.setCell ⟨p, 1, none⟩ u) := fun u => (Only.refl _ _ _).setCell (p := ⟨p, 1, none⟩) hbp u (unhide HP) (by simp)
  have es : ∀ u, (w'.setCell ⟨p, 1, none⟩ u).heap.size = w'.heap.size := fun u => by simp [World.setCell]
  have k2 : ∀ u o, Only base [117] w' ((w'.setCell ⟨p, 1, none⟩ u).alloc o) := fun u o => (k1 u).alloc (by rw [es]; exact hbase) o
  have b1 : ∀ u o, ((w'.setCell ⟨p, 1, none⟩ u).alloc o).heap[p]? = some (.cells #[.slice aob bs.length capb, u] 117 (0, 0)) := fun u o => (Below.heap_alloc _ o p (by rw [es]; exact hplt)).trans (setCell_block (unhide HP))
  have b2 : ∀ u o, ((w'.setCell ⟨p, 1, none⟩ u).alloc o).heap[w'.heap.size]? = some o := fun u o => by have h := heap_alloc_new (w'.setCell ⟨p, 1, none⟩ u) o; rw [es] at h; exact h
  exact ⟨rfl, ⟨_, _, b1 _ _, hbp, (unhide HO).only (k2 _ _) (by decide), Or.inr ⟨w'.heap.size, _, unhide HR, rfl, b2 _ _⟩⟩, (k2 _ _).mono (Nat.le_refl _) (by simp)⟩

set_option maxRecDepth 20000 in
set_option maxHeartbeats 1000000 in
theorem ruled_ok (base p q : Nat) (hq : q < 7) (bs : List Nat) (n : Nat) (hn : n < 256) (hl : bs.length ≤ 1000000000) (w : World) (h : Wr base w p bs 0) (hbase : base ≤ w.heap.size) (hr : refuse q n = 0) :
    Calls Tryz.prog 70 #[.pointer (some ⟨p, 0, none⟩), .int .i64 q, .int .i64 n] w fun e w' => e = .returned (.bool true) ∧ Wr base w' p (bs ++ [n]) 0 ∧ Only base [5, 117] w w' := by
  obtain ⟨i0, hi, hz0, hz1, hz2⟩ := info_parts Tryz.info5
  obtain ⟨v, ev, hp, hbp, ho, herr⟩ := h
  obtain rfl : ev = .nilIface := herr.none
  have c1 : w.cell? ⟨p, 1, none⟩ = some .nilIface := (cell_of_block hp).trans rfl
  have c0 : w.cell? ⟨p, 0, none⟩ = some v := (cell_of_block hp).trans rfl
  have hplt := blk_lt c0
  simp only at hplt
  have hown := ho.1
  have HP := hide hp
  have HO := hide ho
  clear hp ho herr
  go_enter Tryz.func70, Tryz.ntmps70
  go_wp2_with fail
  refine (refusal_any q hq n w).mono ?_
  rw [hr]
  rintro e w' ⟨rfl, rfl⟩
  go_wp2_with (at_builtin; refine wpList_append_own _ rfl (.tmp 35) (.tmp 38) 53 rfl base 5 i0 (.int .u8 0) 1 1 Tryz.underlying53 hi hz0 hz1 hz2 rfl (by decide) _ _ _ rfl (hown.alloc _) ⟨w'.heap.size, 0, none⟩ 1 1 _ rfl rfl news_at (one1 _) (by unfold maxLen; omega) (by omega) (by simp; omega) ?_)
  intro v2 w2 own2 g2 _
  have k2 : Only base [5] w' w2 := ((Only.refl base [5] w').alloc hbase _).own (hown.alloc _) g2 (by simp; omega) (Nat.le_refl _) (by simp)
  have hp2 := k2.block (unhide HP) (by decide)
  obtain ⟨gb, cap2, rfl⟩ : ∃ gb cap2, v2 = .slice (some ⟨gb, 0, none⟩) (bs.length + 1) cap2 := by
    rcases own2.2 with ⟨_, h0⟩ | ⟨gb, cap2, cur, rfl, _⟩
    · omega
    · exact ⟨gb, cap2, rfl⟩
  have d0 : w2.cell? ⟨p, 0, none⟩ = some v := (cell_of_block hp2).trans rfl
  have f0 : w2.frozen? ⟨p, 0, none⟩ = false := free_of_block hp2
  have HP2 := hide hp2
  have K2 := hide k2
  have O2 := hide own2
  clear hp2 k2 own2 g2 hown c0 c1
  go_wp2
  go_ret
  have k3 : ∀ u, Only base [117] w2 (w2.setCell ⟨p, 0, none⟩ u) := fun u => (Only.refl _ _ _).setCell (p := ⟨p, 0, none⟩) hbp u (unhide HP2) (by simp)
  have o2 : Own base w2 (.slice (some ⟨gb, 0, none⟩) (bs.length + 1) cap2) (bs ++ [n]) := by
    refine ⟨?_, ?_⟩
    · have h := unhide O2
      have e2 : (bs ++ [n]).length = bs.length + 1 := by simp
      have e : u8s (bs ++ [n]) = u8s bs ++ [Value.int .u8 (n : Int)] := by simp [u8s]
      rw [e2, e]; exact h
    · intro x hx
      rcases List.mem_append.1 hx with h | h
      · exact (unhide HO).2 x h
      · simp at h; omega
  exact ⟨rfl, ⟨_, .nilIface, setCell_block (unhide HP2), hbp, o2.only (k3 _) (by decide), Or.inl ⟨rfl, rfl⟩⟩, ((unhide K2).mono (Nat.le_refl _) (by simp)).trans ((k3 _).mono (Nat.le_refl _) (by simp))⟩
end Go.Proofs.YtgllokinadjiaaaGreatDoor.Ww
