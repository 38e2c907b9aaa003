/- Words for all texts of this seat: what a call keeps, rows of the call's own, hidden facts. Slices of numbers: what can be read, rows of the call's own, append. Logs in memory: what is kept, entries, rows of entries. hist: New, Last, has, ahead, Term, Newer, fits: contracts. -/
import Derived.Test.YtjplhiflemmkfaaGreatDoorProg
import Derived.WalkKit
import Derived.WalkSpells
import Derived.WalkLawsBesides
import Derived.LaidEql
import Derived.Stop.Asserts
import Derived.RowKitTokens
import Derived.Deep.LoopGhost
import Derived.Laws.BitsAllLaws
import Derived.Laws.AppendOwnNone
import Derived.Maps.AppendAt
import Derived.Deep.AppendSrc
import Derived.Deep.Upon
import Derived.Deep.QuietTactic
import Derived.BigQuiet
import Derived.Deep.DeepCutAuto
import Derived.Deep.CutBlock
import Derived.Deep.RegionWith
namespace Go.Proofs.YtjplhiflemmkfaaGreatDoor.Hh
open Go.RowKit

theorem hide {p : Prop} (h : p) : Hid p := h
theorem unhide {p : Prop} (h : Hid p) : p := h
theorem ret_int {k : IntKind} {a b : Int} (h : a = b) : Ending.returned (.int k a) = .returned (.int k b) := by rw [h]

theorem blk_lt {w : World} {a : Addr} {u : Value} (h : w.cell? a = some u) : a.block < w.heap.size := by
  simp only [World.cell?] at h
  by_cases hb : a.block < w.heap.size
  · exact hb
  · rw [Array.getElem?_eq_none (by omega)] at h; simp at h

theorem take_succ {α : Type} (bs : List α) (d : α) (k : Nat) (h : k < bs.length) : bs.take (k + 1) = bs.take k ++ [bs.getD k d] := by
  rw [List.take_succ_eq_append_getElem h, List.getD_eq_getElem?_getD, List.getElem?_eq_getElem h]; rfl

/-! ### what a call keeps: all below a block; above it all blocks but those of some types -/
def Only (base : Nat) (ts : List TypeId) (w w' : World) : Prop :=
  Below base w w' ∧ ∀ k, k < w.heap.size → (∀ cur e fr, w.heap[k]? = some (.cells cur e fr) → e ∉ ts) → w'.heap[k]? = w.heap[k]?

theorem Only.refl (base : Nat) (ts : List TypeId) (w : World) : Only base ts w w := ⟨Below.refl _ _, fun _ _ _ => rfl⟩
theorem Only.trans {base : Nat} {ts : List TypeId} {a b c : World} (h : Only base ts a b) (k : Only base ts b c) : Only base ts a c := by
  refine ⟨h.1.trans k.1, fun j hj ht => ?_⟩
  have e := h.2 j hj ht
  rw [← e]
  exact k.2 j (Nat.lt_of_lt_of_le hj h.1.size) (fun cur ty fr hc => ht cur ty fr (e ▸ hc))
theorem Only.mono {base base' : Nat} {ts ts' : List TypeId} {w w' : World} (h : Only base ts w w') (hb : base' ≤ base) (ht : ts ⊆ ts') : Only base' ts' w w' :=
  ⟨h.1.mono hb, fun k hk h' => h.2 k hk (fun cur e fr hc hm => h' cur e fr hc (ht hm))⟩
theorem Only.of_below {base : Nat} {ts : List TypeId} {w w' : World} (h : Below w.heap.size w w') (hb : base ≤ w.heap.size) : Only base ts w w' :=
  ⟨h.mono hb, fun k hk _ => h.block k hk⟩
theorem Only.below {base : Nat} {ts : List TypeId} {w w' : World} (h : Only base ts w w') : Below base w w' := h.1
theorem Only.size {base : Nat} {ts : List TypeId} {w w' : World} (h : Only base ts w w') : w.heap.size ≤ w'.heap.size := h.1.size
theorem Only.alloc {base : Nat} {ts : List TypeId} {a w : World} (h : Only base ts a w) (hb : base ≤ w.heap.size) (o : Obj) : Only base ts a (w.alloc o) :=
  h.trans (Only.of_below ((Below.refl _ _).alloc (Nat.le_refl _) o) hb)
theorem Only.grown {base : Nat} {ts : List TypeId} {a w w' : World} {row : Option Nat} (h : Only base ts a w) (hg : w.grownBy w' row) (hb : base ≤ w.heap.size)
    (hr : ∀ k, row = some k → base ≤ k ∧ ∃ cur e fr, w.heap[k]? = some (.cells cur e fr) ∧ e ∈ ts) : Only base ts a w' := by
  refine h.trans ⟨(Below.refl _ _).grown hg hb (fun k hk => (hr k hk).1), fun k hk ht => ?_⟩
  obtain ⟨_, _, _, _, hold⟩ := hg
  refine hold k hk ?_
  intro hk'
  obtain ⟨_, cur, e, fr, hc, he⟩ := hr k hk'.symm
  exact ht cur e fr hc he
theorem heap_setCell_tag {w : World} {p : Addr} {u : Value} {cur : Array Value} {e : TypeId} {fr : Nat × Nat} (h : w.heap[p.block]? = some (.cells cur e fr)) : ∃ cur', (w.setCell p u).heap[p.block]? = some (.cells cur' e fr) := by
  simp [World.setCell, Array.getElem?_modify, h]
theorem Only.setCell {base : Nat} {ts : List TypeId} {a w : World} (h : Only base ts a w) {p : Addr} (hp : base ≤ p.block) (u : Value) {cur : Array Value} {e : TypeId} {fr : Nat × Nat}
    (hc : w.heap[p.block]? = some (.cells cur e fr)) (he : e ∈ ts) : Only base ts a (w.setCell p u) := by
  refine h.trans ⟨(Below.refl _ _).setCell hp u, fun k _ ht => ?_⟩
  refine Below.heap_setCell w p u k ?_
  intro e0
  subst e0
  exact ht _ _ _ hc he
theorem Only.drew {base : Nat} {ts : List TypeId} {a w : World} (h : Only base ts a w) : Only base ts a w.drew := ⟨h.1.drew, h.2⟩
/-- a block of another type stays. -/
theorem Only.block {base : Nat} {ts : List TypeId} {w w' : World} (h : Only base ts w w') {k : Nat} {cur : Array Value} {e : TypeId} {fr : Nat × Nat} (hc : w.heap[k]? = some (.cells cur e fr)) (he : e ∉ ts) :
    w'.heap[k]? = some (.cells cur e fr) := by
  have hk : k < w.heap.size := by
    by_cases hk : k < w.heap.size
    · exact hk
    · rw [Array.getElem?_eq_none (by omega)] at hc; cases hc
  rw [h.2 k hk (fun cur' e' fr' hc' => by rw [hc] at hc'; cases hc'; exact he)]; exact hc
theorem Only.cells {base : Nat} {ts : List TypeId} {w w' : World} (h : Only base ts w w') {k : Nat} {cur : Array Value} {e : TypeId} {fr : Nat × Nat} (hc : w.heap[k]? = some (.cells cur e fr)) (he : e ∉ ts) :
    ∀ o, w'.cell? ⟨k, o, none⟩ = w.cell? ⟨k, o, none⟩ := fun o => World.cell?_of_block (w := w) (a := ⟨k, o, none⟩) (by rw [h.block hc he]; exact hc.symm)

/-! ### rows of bytes of the call's own -/
theorem own_tag {w : World} {base : Nat} {e : TypeId} {size : Nat} {v : Value} {n : Nat} {xs : List Value} (h : w.ownsRow base e size v n xs) : ∀ k, v.ownBlock = some k → base ≤ k ∧ ∃ cur fr, w.heap[k]? = some (.cells cur e fr) := by
  intro k hk
  rcases h.2 with ⟨rfl, _⟩ | ⟨g, cap, cur, rfl, hb, hh, _⟩
  · simp [Value.ownBlock] at hk
  · simp [Value.ownBlock] at hk; subst hk; exact ⟨hb, cur, _, hh⟩
theorem own_kept {w w' : World} {base : Nat} {e : TypeId} {size : Nat} {v : Value} {n : Nat} {xs : List Value} (h : w.ownsRow base e size v n xs) (hk : ∀ k, v.ownBlock = some k → w'.heap[k]? = w.heap[k]?) : w'.ownsRow base e size v n xs := by
  refine ⟨h.1, ?_⟩
  rcases h.2 with h0 | ⟨g, cap, cur, rfl, hb, hh, rest⟩
  · exact Or.inl h0
  · exact Or.inr ⟨g, cap, cur, rfl, hb, by rw [hk g rfl]; exact hh, rest⟩
theorem own_only {w w' : World} {base base' : Nat} {ts : List TypeId} {e : TypeId} {size : Nat} {v : Value} {n : Nat} {xs : List Value} (h : w.ownsRow base e size v n xs) (ho : Only base' ts w w') (he : e ∉ ts) : w'.ownsRow base e size v n xs :=
  own_kept h fun k hk => by
    obtain ⟨_, cur, fr, hc⟩ := own_tag h k hk
    rw [ho.block hc he, hc]
theorem own_below {w w' : World} {base : Nat} {e : TypeId} {size : Nat} {v : Value} {n : Nat} {xs : List Value} (h : w.ownsRow base e size v n xs) (hb : Below w.heap.size w w') : w'.ownsRow base e size v n xs :=
  own_kept h fun k hk => hb.block k (h.lt k hk).2
theorem Only.own {base base' : Nat} {ts : List TypeId} {a w w' : World} {e : TypeId} {size : Nat} {v : Value} {n : Nat} {xs : List Value} (h : Only base ts a w) (hown : w.ownsRow base' e size v n xs) (hg : w.grownBy w' v.ownBlock) (hb : base ≤ w.heap.size) (hbb : base ≤ base') (he : e ∈ ts) : Only base ts a w' :=
  h.grown hg hb fun k hk => by
    obtain ⟨h1, cur, fr, h2⟩ := own_tag hown k hk
    exact ⟨Nat.le_trans hbb h1, cur, e, fr, h2, he⟩

theorem add_block (a : Addr) (i : Nat) : (a.add i).block = a.block := by unfold Addr.add; split <;> rfl
theorem news_at {W : World} {cs : Array Value} {t : TypeId} : ∀ j u, cs.toList[j]? = some u → (W.alloc (.cells cs t)).cell? ((⟨W.heap.size, 0, none⟩ : Addr).add j) = some u := by
  intro j u hj
  rw [Addr.add_lit]
  have : (W.alloc (.cells cs t)).heap[W.heap.size]? = some (.cells cs t) := heap_alloc_new _ _
  simp only [World.cell?, this]
  simpa using hj
/-! ### what a call keeps, block by block: all below a block, and above it all but some -/
def Kept (base : Nat) (f : Nat → Prop) (w w' : World) : Prop := Below base w w' ∧ ∀ k, k < w.heap.size → ¬ f k → w'.heap[k]? = w.heap[k]?
theorem Kept.refl (base : Nat) (f : Nat → Prop) (w : World) : Kept base f w w := ⟨Below.refl _ _, fun _ _ _ => rfl⟩
theorem Kept.trans {base : Nat} {f g : Nat → Prop} {a b c : World} (h : Kept base f a b) (k : Kept base g b c) (hg : ∀ j, j < a.heap.size → g j → f j) : Kept base f a c :=
  ⟨h.1.trans k.1, fun j hj hn => (k.2 j (Nat.lt_of_lt_of_le hj h.1.size) (fun x => hn (hg j hj x))).trans (h.2 j hj hn)⟩
theorem Kept.mono {base base' : Nat} {f g : Nat → Prop} {w w' : World} (h : Kept base f w w') (hb : base' ≤ base) (hg : ∀ j, j < w.heap.size → f j → g j) : Kept base' g w w' :=
  ⟨h.1.mono hb, fun k hk hn => h.2 k hk (fun x => hn (hg k hk x))⟩
theorem Kept.of_below {base : Nat} {f : Nat → Prop} {w w' : World} (h : Below w.heap.size w w') (hb : base ≤ w.heap.size) : Kept base f w w' := ⟨h.mono hb, fun k hk _ => h.block k hk⟩
theorem Kept.size {base : Nat} {f : Nat → Prop} {w w' : World} (h : Kept base f w w') : w.heap.size ≤ w'.heap.size := h.1.size
theorem Kept.setCell {base : Nat} {f : Nat → Prop} {a w : World} (h : Kept base f a w) {p : Addr} (hp : base ≤ p.block) (hf : f p.block) (u : Value) : Kept base f a (w.setCell p u) :=
  h.trans (g := fun k => k = p.block) ⟨(Below.refl _ _).setCell hp u, fun k _ hn => Below.heap_setCell w p u k hn⟩ (fun _ _ e => e ▸ hf)
theorem Kept.alloc {base : Nat} {f : Nat → Prop} {a w : World} (h : Kept base f a w) (hb : base ≤ w.heap.size) (o : Obj) : Kept base f a (w.alloc o) :=
  h.trans (g := f) (Kept.of_below ((Below.refl _ _).alloc (Nat.le_refl _) o) hb) (fun _ _ x => x)
theorem Kept.drew {base : Nat} {f : Nat → Prop} {a w : World} (h : Kept base f a w) : Kept base f a w.drew := ⟨h.1.drew, h.2⟩
theorem Kept.own {base base' : Nat} {f : Nat → Prop} {w w' : World} {e : TypeId} {size : Nat} {v : Value} {n : Nat} {xs : List Value} (h : Kept base f w w') (hown : w.ownsRow base' e size v n xs) (hn : ∀ k, v.ownBlock = some k → ¬ f k) : w'.ownsRow base' e size v n xs :=
  own_kept hown fun k hk => h.2 k (hown.lt k hk).2 (hn k hk)
end Go.Proofs.YtjplhiflemmkfaaGreatDoor.Hh
namespace Go.Proofs.YtjplhiflemmkfaaGreatDoor.Hh
open Go.RowKit Go.Maps

theorem drewN_below (w : World) (k : Nat) : Below w.heap.size w (w.drewN k) := ⟨rfl, rfl, rfl, Nat.le_refl _, fun _ _ => rfl⟩
theorem Tryz.infoI : (Tryz.prog.info? 3).map (fun i => (i.zero, i.size, i.bytes)) = some (some (.int .i64 0), 1, 8) := by kernel_rfl
/-- a slice of numbers. -/
def IntsR (w : World) (ao : Option Addr) (ys : List Int) : Prop := ∀ i, i < ys.length → ∃ a, ao = some a ∧ w.cell? (a.add i) = some (.int .i64 (ys.getD i 0))
theorem IntsR.below {w w' : World} {ao : Option Addr} {ys : List Int} (h : IntsR w ao ys) (hb : Below w.heap.size w w') : IntsR w' ao ys := fun i hi => by
  obtain ⟨a, e, hc⟩ := h i hi
  exact ⟨a, e, by rw [hb.cell (blk_lt hc)]; exact hc⟩
theorem IntsR.nil (w : World) (ao : Option Addr) : IntsR w ao [] := fun i hi => by simp at hi
theorem IntsR.none_nil {w : World} {ys : List Int} (h : IntsR w none ys) : ys = [] := by
  cases ys with
  | nil => rfl
  | cons y ys => obtain ⟨a, e, _⟩ := h 0 (by simp); cases e
theorem ext_getD {xs ys : List Int} (h : xs.length = ys.length) (hj : ∀ j, j < xs.length → xs.getD j 0 = ys.getD j 0) : xs = ys := by
  apply List.ext_getElem h
  intro i h1 h2
  have := hj i h1
  rw [List.getD_eq_getElem?_getD, List.getD_eq_getElem?_getD, List.getElem?_eq_getElem h1, List.getElem?_eq_getElem h2] at this
  simpa using this
theorem drop_getD {xs : List Int} {k : Nat} (h : k < xs.length) : xs.drop k = xs.getD k 0 :: xs.drop (k + 1) := by
  rw [List.drop_eq_getElem_cons h, List.getD_eq_getElem?_getD, List.getElem?_eq_getElem h]; rfl
theorem mem_getD {xs : List Int} {k : Nat} (h : k < xs.length) : xs.getD k 0 ∈ xs := by
  rw [List.getD_eq_getElem?_getD, List.getElem?_eq_getElem h]; exact List.getElem_mem h

/-! ### such as the library's contracts speak of: no element of an array within a struct -/
def Fr (w : World) (ao : Option Addr) (ys : List Int) : Prop := IntsR w ao ys ∧ ∀ a, ao = some a → ∃ b off, a = ⟨b, off, none⟩
theorem Fr.below {w w' : World} {ao : Option Addr} {ys : List Int} (h : Fr w ao ys) (hb : Below w.heap.size w w') : Fr w' ao ys := ⟨h.1.below hb, h.2⟩
theorem Fr.take {w : World} {ao : Option Addr} {ys : List Int} (h : Fr w ao ys) (n : Nat) : Fr w ao (ys.take n) := by
  refine ⟨fun i hi => ?_, h.2⟩
  rw [List.length_take] at hi
  obtain ⟨a, e, hc⟩ := h.1 i (by omega)
  refine ⟨a, e, ?_⟩
  rw [hc, List.getD_eq_getElem?_getD, List.getD_eq_getElem?_getD, List.getElem?_take_of_lt (by omega)]
theorem Fr.at {w : World} {ao : Option Addr} {ys : List Int} (h : Fr w ao ys) : ys = [] ∨ ∃ b off, ao = some ⟨b, off, none⟩ ∧ ∀ j, j < ys.length → w.cell? ⟨b, off + j, none⟩ = some (.int .i64 (ys.getD j 0)) := by
  by_cases hy : ys = []
  · exact Or.inl hy
  · right
    have h0 : 0 < ys.length := List.length_pos_iff.2 hy
    obtain ⟨a, rfl, _⟩ := h.1 0 h0
    obtain ⟨b, off, rfl⟩ := h.2 a rfl
    refine ⟨b, off, rfl, fun j hj => ?_⟩
    obtain ⟨a', e, hc⟩ := h.1 j hj
    cases e
    rw [Addr.add_lit] at hc; exact hc

/-! ### rows of the call's own -/
def i64s (ys : List Int) : List Value := ys.map (Value.int .i64)
theorem i64s_append (xs ys : List Int) : i64s (xs ++ ys) = i64s xs ++ i64s ys := by simp [i64s]
theorem i64s_one (ys : List Int) : ∀ u ∈ i64s ys, u.oneCell' = true := fun u hu => by
  simp only [i64s, List.mem_map] at hu; obtain ⟨y, _, rfl⟩ := hu; rfl
/-- v is a row of the call's own, of the numbers ys. -/
def Ir (base : Nat) (w : World) (v : Value) (ys : List Int) : Prop := w.ownsRow base 3 1 v ys.length (i64s ys)
theorem Ir.below {base : Nat} {w w' : World} {v : Value} {ys : List Int} (h : Ir base w v ys) (hb : Below w.heap.size w w') : Ir base w' v ys := own_below h hb
theorem Ir.nil (base : Nat) (w : World) : Ir base w (.slice none 0 0) [] := ⟨by simp [i64s], Or.inl ⟨rfl, rfl⟩⟩
theorem Ir.slice {base : Nat} {w : World} {v : Value} {ys : List Int} (h : Ir base w v ys) : ∃ ao cap, v = .slice ao ys.length cap ∧ Fr w ao ys ∧ ys.length ≤ cap ∧ cap ≤ maxLen := by
  rcases h.2 with ⟨rfl, h0⟩ | ⟨g, cap, cur, rfl, hb, hh, hc, hm, hs, ht⟩
  · have : ys = [] := List.eq_nil_of_length_eq_zero h0
    subst this
    exact ⟨none, 0, rfl, ⟨IntsR.nil _ _, fun a ha => by cases ha⟩, Nat.le_refl _, by decide⟩
  · refine ⟨_, cap, rfl, ⟨fun i hi => ⟨_, rfl, ?_⟩, fun a ha => ⟨g, 0, by cases ha; rfl⟩⟩, hc, hm⟩
    refine World.ownsRow.cells h (g := g) rfl i _ ?_
    rw [i64s, List.getElem?_map, List.getElem?_eq_getElem hi, List.getD_eq_getElem?_getD, List.getElem?_eq_getElem hi]; rfl
/-- append: the source may be nil; an operation's law. -/
theorem wpList_app {w : World} {ops : Array Oper} {rest : List Oper} {o : Oper} {a : Act} {Q : Exit → Act → World → Prop} (hgd : o.guard = none) (s x : Operand)
    (ho : o.op = .call { callee := .builtin .append, args := #[s, x], argTypes := #[24, 24] }) (base : Nat) (v : Value) (xs : List Int) (hs : a.eval s = v) (hown : Ir base w v xs)
    (ao : Option Addr) (m c : Nat) (ys : List Int) (hx : a.eval x = .slice ao m c) (hm : ys.length = m) (hy : IntsR w ao ys) (hl : xs.length + m ≤ 1000000000) (hb : base ≤ w.heap.size)
    (h : ∀ v' w', Ir base w' v' (xs ++ ys) → w.grownBy w' v.ownBlock → wpList Tryz.prog ops Q rest (a.put o.dst v') w') : wpList Tryz.prog ops Q (o :: rest) a w := by
  obtain ⟨i0, hi0, hz0, hz1, hz2⟩ := info_parts Tryz.infoI
  refine wpList_plain hgd fun K hK => ?_
  have key : ∃ v' w', (Builtin.append_ #[24, 24] o.type #[v, .slice ao m c]).run Tryz.prog w = .ok v' w' ∧ Ir base w' v' (xs ++ ys) ∧ w.grownBy w' v.ownBlock := by
    cases ao with
    | none =>
      obtain rfl := hy.none_nil
      simp only [List.length_nil] at hm
      subst hm
      obtain ⟨av, cv, rfl, _, hc, _⟩ := hown.slice
      have hr := run_append_nothing (P := Tryz.prog) w 24 24 o.type 3 i0 Tryz.underlying24 hi0 av xs.length cv hc (.slice none 0 c) (Src.ofNil w Tryz.underlying24 c)
      exact ⟨_, _, hr, by simpa using hown, ⟨rfl, rfl, rfl, Nat.le_refl _, fun _ _ _ => rfl⟩⟩
    | some ad =>
      obtain ⟨v', w', hr, o', g', _⟩ := run_append_own_at (P := Tryz.prog) w base 24 o.type 3 i0 _ 1 8 Tryz.underlying24 hi0 hz0 hz1 hz2 rfl (by decide) v xs.length (i64s xs) hown ad m c (i64s ys) (by rw [i64s, List.length_map, hm]; omega)
        (fun j u hj => by
          rw [i64s, List.getElem?_map] at hj
          cases hq : ys[j]? with
          | none => rw [hq] at hj; simp at hj
          | some y =>
            rw [hq] at hj; simp at hj; subst hj
            obtain ⟨a, e, hcell⟩ := hy j (List.getElem?_eq_some_iff.1 hq).1
            cases e
            rw [hcell, List.getD_eq_getElem?_getD, hq]; rfl)
        (i64s_one ys) (by unfold maxLen; omega) (by omega) hb
      refine ⟨v', w', hr, ?_, g'⟩
      unfold Ir
      rw [List.length_append, hm, i64s_append]; exact o'
  obtain ⟨v', w', hr, h1, h2⟩ := key
  unfold Oper.wp execOp
  simp only [ho, resolve, invoke, builtin, Sem.run_bind, Sem.run_pure, Result.andThen_ok, List.map_toArray, List.map_cons, List.map_nil, hs, hx, hr]
  exact hK _ _ (h v' w' h1 h2)
theorem Ir.grown {base : Nat} {a w w' : World} {v : Value} {xs : List Int} (h : Ir base w v xs) (hg : w.grownBy w' v.ownBlock) (hb : Below base a w) (hbb : base ≤ w.heap.size) : Below base a w' :=
  hb.grown hg hbb (fun k hk => (h.lt k hk).1)
end Go.Proofs.YtjplhiflemmkfaaGreatDoor.Hh
namespace Go.Proofs.YtjplhiflemmkfaaGreatDoor.Hh
open Go.RowKit Go.Maps

theorem heap_lt {w : World} {k : Nat} {o : Obj} (h : w.heap[k]? = some o) : k < w.heap.size := by
  by_cases hh : k < w.heap.size
  · exact hh
  · rw [Array.getElem?_eq_none (by omega)] at h; cases h
theorem cell_of_block {w : World} {p i : Nat} {cs : Array Value} {t : TypeId} {fr : Nat × Nat} (h : w.heap[p]? = some (.cells cs t fr)) : w.cell? ⟨p, i, none⟩ = cs[i]? := by
  simp [World.cell?, h]
theorem free_of_block {w : World} {p i : Nat} {cs : Array Value} {t : TypeId} (h : w.heap[p]? = some (.cells cs t (0, 0))) : w.frozen? ⟨p, i, none⟩ = false := by
  simp [World.frozen?, h]
theorem setCell_block {w : World} {p i : Nat} {u : Value} {cs : Array Value} {t : TypeId} {fr : Nat × Nat} (h : w.heap[p]? = some (.cells cs t fr)) : (w.setCell ⟨p, i, none⟩ u).heap[p]? = some (.cells (cs.setIfInBounds i u) t fr) := by
  simp [World.setCell, Array.getElem?_modify, h]
theorem Below.stay {w w' : World} (h : Below w.heap.size w w') {k : Nat} {o : Obj} (hk : w.heap[k]? = some o) : w'.heap[k]? = some o := (h.block k (heap_lt hk)).trans hk
theorem below_far {w w1 w2 : World} (h : Below w.heap.size w w1) (k : Below w1.heap.size w1 w2) : Below w.heap.size w w2 := h.trans (k.mono h.size)
theorem box_at (w : World) (o : Obj) : (w.alloc o).heap[w.heap.size]? = some o := heap_alloc_new _ _

/-! ### all but some blocks are kept -/
def Kp (D : Nat → Prop) (w w' : World) : Prop := Kept 0 D w w'
theorem Kp.refl (D : Nat → Prop) (w : World) : Kp D w w := Kept.refl _ _ _
theorem Kp.of_below {D : Nat → Prop} {w w' : World} (h : Below w.heap.size w w') : Kp D w w' := Kept.of_below h (Nat.zero_le _)
theorem Kp.size {D : Nat → Prop} {w w' : World} (h : Kp D w w') : w.heap.size ≤ w'.heap.size := Kept.size h
theorem Kp.trans {D E : Nat → Prop} {a b c : World} (h : Kp D a b) (k : Kp E b c) (he : ∀ j, j < a.heap.size → E j → D j) : Kp D a c := Kept.trans h k he
theorem Kp.mono {D E : Nat → Prop} {a b : World} (h : Kp D a b) (he : ∀ j, j < a.heap.size → D j → E j) : Kp E a b := Kept.mono h (Nat.le_refl _) he
theorem Kp.far {D : Nat → Prop} {a b c : World} (h : Kp D a b) (k : Below b.heap.size b c) : Kp D a c := h.trans (E := fun _ => False) (Kp.of_below k) (fun _ _ x => x.elim)
theorem Kp.block {D : Nat → Prop} {w w' : World} (h : Kp D w w') {k : Nat} {o : Obj} (hk : w.heap[k]? = some o) (hd : ¬ D k) : w'.heap[k]? = some o := (h.2 k (heap_lt hk) hd).trans hk
theorem Kp.cell {D : Nat → Prop} {w w' : World} (h : Kp D w w') {a : Addr} {u : Value} (ha : w.cell? a = some u) (hd : ¬ D a.block) : w'.cell? a = some u := by
  rw [World.cell?_of_block (w := w) (h.2 a.block (blk_lt ha) hd)]; exact ha
theorem Kp.below {D : Nat → Prop} {w w' : World} (h : Kp D w w') {base : Nat} (hd : ∀ k, D k → base ≤ k) (hb : base ≤ w.heap.size) : Below base w w' :=
  ⟨h.1.os, h.1.tape, h.1.output, h.1.size, fun k hk => h.2 k (by omega) (fun x => by have := hd k x; omega)⟩
theorem Kp.setCell {D : Nat → Prop} {a w : World} (h : Kp D a w) {p : Addr} (hf : D p.block) (u : Value) : Kp D a (w.setCell p u) := Kept.setCell h (Nat.zero_le _) hf u
theorem Kp.alloc {D : Nat → Prop} {a w : World} (h : Kp D a w) (o : Obj) : Kp D a (w.alloc o) := Kept.alloc h (Nat.zero_le _) o
theorem Kp.drew {D : Nat → Prop} {a w : World} (h : Kp D a w) : Kp D a w.drew := Kept.drew h
theorem Kp.grown {D : Nat → Prop} {a w w' : World} {row : Option Nat} (h : Kp D a w) (hg : w.grownBy w' row) (hr : ∀ k, k < a.heap.size → row = some k → D k) : Kp D a w' :=
  h.trans (E := fun k => row = some k) ⟨⟨hg.os, hg.tape, hg.output, hg.size, fun k hk => by omega⟩, fun k hk hn => hg.block k hk (fun e => hn e.symm)⟩ hr
/-- new blocks are nobody's. -/
def News (D : Nat → Prop) (w w' : World) (k : Nat) : Prop := D k ∨ (w.heap.size ≤ k ∧ k < w'.heap.size)

/-! ### numbers that lie in some blocks -/
def InF (F : Nat → Prop) (w : World) (ao : Option Addr) (ys : List Int) : Prop := ∀ i, i < ys.length → ∃ a, ao = some a ∧ F a.block ∧ w.cell? (a.add i) = some (.int .i64 (ys.getD i 0))
theorem InF.ints {F : Nat → Prop} {w : World} {ao : Option Addr} {ys : List Int} (h : InF F w ao ys) : IntsR w ao ys := fun i hi => by
  obtain ⟨a, h1, _, h3⟩ := h i hi
  exact ⟨a, h1, h3⟩
theorem InF.kp {F D : Nat → Prop} {w w' : World} {ao : Option Addr} {ys : List Int} (h : InF F w ao ys) (hk : Kp D w w') (hd : ∀ k, F k → ¬ D k) : InF F w' ao ys := fun i hi => by
  obtain ⟨a, h1, h2, h3⟩ := h i hi
  exact ⟨a, h1, h2, hk.cell h3 (by rw [add_block]; exact hd _ h2)⟩
theorem InF.below {F : Nat → Prop} {w w' : World} {ao : Option Addr} {ys : List Int} (h : InF F w ao ys) (hb : Below w.heap.size w w') : InF F w' ao ys := h.kp (D := fun _ => False) (Kp.of_below hb) (fun _ _ x => x)
theorem InF.mono {F G : Nat → Prop} {w : World} {ao : Option Addr} {ys : List Int} (h : InF F w ao ys) (hg : ∀ k, F k → G k) : InF G w ao ys := fun i hi => by
  obtain ⟨a, h1, h2, h3⟩ := h i hi
  exact ⟨a, h1, hg _ h2, h3⟩
theorem IntsR.inF {w : World} {ao : Option Addr} {ys : List Int} (h : IntsR w ao ys) : InF (fun k => k < w.heap.size) w ao ys := fun i hi => by
  obtain ⟨a, h1, h2⟩ := h i hi
  exact ⟨a, h1, by have := blk_lt h2; rwa [add_block] at this, h2⟩
theorem InF.nil (F : Nat → Prop) (w : World) (ao : Option Addr) : InF F w ao [] := fun i hi => by simp at hi
theorem Ir.inF {base : Nat} {w : World} {ao : Option Addr} {n c : Nat} {ys : List Int} (h : Ir base w (.slice ao n c) ys) : InF (fun k => (Value.slice ao n c).ownBlock = some k) w ao ys := fun i hi => by
  obtain ⟨ao', cap, e, hf, _⟩ := h.slice
  cases e
  obtain ⟨a, rfl, h2⟩ := hf.1 i hi
  exact ⟨a, rfl, rfl, h2⟩
theorem Ir.kp {base : Nat} {D : Nat → Prop} {w w' : World} {v : Value} {ys : List Int} (h : Ir base w v ys) (hk : Kp D w w') (hd : ∀ k, v.ownBlock = some k → ¬ D k) : Ir base w' v ys := Kept.own hk h hd
theorem Ir.zero {base : Nat} {w : World} {v : Value} {ys : List Int} (h : Ir base w v ys) : Ir 0 w v ys := by
  refine ⟨h.1, ?_⟩
  rcases h.2 with e | ⟨g, cap, cur, e1, e2, e3⟩
  · exact Or.inl e
  · exact Or.inr ⟨g, cap, cur, e1, Nat.zero_le _, e3⟩

/-! ### entries -/
structure En where
  kind : Int
  client : Int
  seq : Int
  text : ByteArray
  ms : List Int
  dest : Int
def En.cells (e : En) (mv : Value) : List Value := [.int .i64 e.kind, .int .i64 e.client, .int .i64 e.seq, .string e.text, mv, .int .i64 e.dest]
theorem En.cells_one (e : En) {mv : Value} (h : mv.oneCell' = true) : ∀ u ∈ e.cells mv, u.oneCell' = true := fun u hu => by
  simp only [En.cells, List.mem_cons, List.not_mem_nil, or_false] at hu
  rcases hu with rfl | rfl | rfl | rfl | rfl | rfl
  · rfl
  · rfl
  · rfl
  · rfl
  · exact h
  · rfl
/-- a slice of entries, in some blocks. -/
def EsR (F : Nat → Prop) (w : World) (ao : Option Addr) (es : List En) : Prop :=
  ∀ (i : Nat) (e : En), es[i]? = some e → ∃ g off mo cap, ao = some ⟨g, off, none⟩ ∧ F g ∧ (∀ (j : Nat) (u : Value), (e.cells (.slice mo e.ms.length cap))[j]? = some u → w.cell? ⟨g, off + i * 6 + j, none⟩ = some u) ∧ InF F w mo e.ms ∧ e.ms.length ≤ 1000000
theorem EsR.kp {F D : Nat → Prop} {w w' : World} {ao : Option Addr} {es : List En} (h : EsR F w ao es) (hk : Kp D w w') (hd : ∀ k, F k → ¬ D k) : EsR F w' ao es := fun i e hi => by
  obtain ⟨g, off, mo, cap, h1, h2, h3, h4, h5⟩ := h i e hi
  exact ⟨g, off, mo, cap, h1, h2, fun j u hj => hk.cell (h3 j u hj) (hd _ h2), h4.kp hk hd, h5⟩
theorem EsR.below {F : Nat → Prop} {w w' : World} {ao : Option Addr} {es : List En} (h : EsR F w ao es) (hb : Below w.heap.size w w') : EsR F w' ao es := h.kp (D := fun _ => False) (Kp.of_below hb) (fun _ _ x => x)
theorem EsR.mono {F G : Nat → Prop} {w : World} {ao : Option Addr} {es : List En} (h : EsR F w ao es) (hg : ∀ k, F k → G k) : EsR G w ao es := fun i e hi => by
  obtain ⟨g, off, mo, cap, h1, h2, h3, h4, h5⟩ := h i e hi
  exact ⟨g, off, mo, cap, h1, hg _ h2, h3, h4.mono hg, h5⟩
theorem EsR.nil (F : Nat → Prop) (w : World) (ao : Option Addr) : EsR F w ao [] := fun i e hi => by simp at hi
/-- the six cells of an entry. -/
theorem En.six {w : World} {g n : Nat} {e : En} {mv : Value} (h : ∀ (j : Nat) (u : Value), (e.cells mv)[j]? = some u → w.cell? ⟨g, n + j, none⟩ = some u) :
    w.cell? ⟨g, n, none⟩ = some (.int .i64 e.kind) ∧ w.cell? ⟨g, n + 1, none⟩ = some (.int .i64 e.client) ∧ w.cell? ⟨g, n + 2, none⟩ = some (.int .i64 e.seq) ∧ w.cell? ⟨g, n + 3, none⟩ = some (.string e.text) ∧ w.cell? ⟨g, n + 4, none⟩ = some mv ∧ w.cell? ⟨g, n + 5, none⟩ = some (.int .i64 e.dest) :=
  ⟨h 0 _ rfl, h 1 _ rfl, h 2 _ rfl, h 3 _ rfl, h 4 _ rfl, h 5 _ rfl⟩
theorem EsR.at {F : Nat → Prop} {w : World} {ao : Option Addr} {es : List En} (h : EsR F w ao es) {k : Nat} {e : En} (he : es[k]? = some e) :
    ∃ g off mo cap, ao = some ⟨g, off, none⟩ ∧ w.cell? ⟨g, off + k * 6, none⟩ = some (.int .i64 e.kind) ∧ w.cell? ⟨g, off + k * 6 + 1, none⟩ = some (.int .i64 e.client) ∧ w.cell? ⟨g, off + k * 6 + 2, none⟩ = some (.int .i64 e.seq) ∧ w.cell? ⟨g, off + k * 6 + 3, none⟩ = some (.string e.text) ∧ w.cell? ⟨g, off + k * 6 + 4, none⟩ = some (.slice mo e.ms.length cap) ∧ w.cell? ⟨g, off + k * 6 + 5, none⟩ = some (.int .i64 e.dest) ∧ InF F w mo e.ms ∧ e.ms.length ≤ 1000000 := by
  obtain ⟨g, off, mo, cap, h1, h2, h3, h4, h5⟩ := h k e he
  obtain ⟨k0, k1, k2, k3, k4, k5⟩ := En.six h3
  exact ⟨g, off, mo, cap, h1, k0, k1, k2, k3, k4, k5, h4, h5⟩

/-! ### rows of a log -/
abbrev Rw := Int × En
def rwCells (r : Rw) (mv : Value) : List Value := .int .i64 r.1 :: r.2.cells mv
def RRow (D : Nat → Prop) (w : World) (rv : Value) (rs : List Rw) : Prop :=
  ∃ xs, w.ownsRow 0 203 7 rv rs.length xs ∧ (∀ k, rv.ownBlock = some k → D k) ∧
    ∀ (i : Nat) (r : Rw), rs[i]? = some r → ∃ mv, (∀ (j : Nat) (u : Value), (rwCells r mv)[j]? = some u → xs[i * 7 + j]? = some u) ∧ Ir 0 w mv r.2.ms ∧ (∀ k, mv.ownBlock = some k → D k) ∧ r.2.ms.length ≤ 1000000
structure Hs (D : Nat → Prop) (w : World) (p : Nat) (b : Int) (rs : List Rw) : Prop where
  box : ∃ rv, w.heap[p]? = some (.cells #[.int .i64 b, rv] 132 (0, 0)) ∧ RRow D w rv rs
  own : D p
  lt : ∀ k, D k → k < w.heap.size
theorem RRow.kp {D E : Nat → Prop} {w w' : World} {rv : Value} {rs : List Rw} (h : RRow D w rv rs) (hk : Kp E w w') (hd : ∀ k, D k → ¬ E k) : RRow D w' rv rs := by
  obtain ⟨xs, h1, h2, h3⟩ := h
  refine ⟨xs, Kept.own hk h1 (fun k e => hd k (h2 k e)), h2, fun i r hi => ?_⟩
  obtain ⟨mv, k1, k2, k3, k4⟩ := h3 i r hi
  exact ⟨mv, k1, k2.kp hk (fun k e => hd k (k3 k e)), k3, k4⟩
theorem RRow.mono {D E : Nat → Prop} {w : World} {rv : Value} {rs : List Rw} (h : RRow D w rv rs) (hd : ∀ k, D k → E k) : RRow E w rv rs := by
  obtain ⟨xs, h1, h2, h3⟩ := h
  refine ⟨xs, h1, fun k e => hd k (h2 k e), fun i r hi => ?_⟩
  obtain ⟨mv, k1, k2, k3, k4⟩ := h3 i r hi
  exact ⟨mv, k1, k2, fun k e => hd k (k3 k e), k4⟩
theorem Hs.kp {D E : Nat → Prop} {w w' : World} {p : Nat} {b : Int} {rs : List Rw} (h : Hs D w p b rs) (hk : Kp E w w') (hd : ∀ k, D k → ¬ E k) : Hs D w' p b rs := by
  obtain ⟨⟨rv, h1, h2⟩, h3, h4⟩ := h
  exact ⟨⟨rv, hk.block h1 (hd p h3), h2.kp hk hd⟩, h3, fun k x => Nat.lt_of_lt_of_le (h4 k x) hk.size⟩
theorem Hs.below {D : Nat → Prop} {w w' : World} {p : Nat} {b : Int} {rs : List Rw} (h : Hs D w p b rs) (hb : Below w.heap.size w w') : Hs D w' p b rs := h.kp (E := fun _ => False) (Kp.of_below hb) (fun _ _ x => x)
theorem RRow.nil (D : Nat → Prop) (w : World) : RRow D w (.slice none 0 0) [] := ⟨[], ⟨rfl, Or.inl ⟨rfl, rfl⟩⟩, fun k e => by simp [Value.ownBlock] at e, fun i r hi => by simp at hi⟩
/-- the rows as a slice. -/
theorem RRow.slice {D : Nat → Prop} {w : World} {rv : Value} {rs : List Rw} (h : RRow D w rv rs) : ∃ ao cap, rv = .slice ao rs.length cap ∧ rs.length ≤ cap ∧ cap ≤ maxLen ∧ (ao = none → rs = [] ∧ cap = 0) := by
  obtain ⟨xs, h1, _, _⟩ := h
  rcases h1.2 with ⟨e1, e2⟩ | ⟨g, cap, cur, e1, _, _, e3, e4, _⟩
  · exact ⟨none, 0, by rw [e2]; exact e1, by omega, by decide, fun _ => ⟨List.eq_nil_of_length_eq_zero e2, rfl⟩⟩
  · exact ⟨_, cap, e1, e3, e4, fun e => by cases e⟩
/-- one row's cells. -/
theorem RRow.at {D : Nat → Prop} {w : World} {ao : Option Addr} {n cap : Nat} {rs : List Rw} (h : RRow D w (.slice ao n cap) rs) {i : Nat} {r : Rw} (hi : rs[i]? = some r) :
    ∃ g mo mc, ao = some ⟨g, 0, none⟩ ∧ D g ∧ (∀ (j : Nat) (u : Value), (rwCells r (.slice mo r.2.ms.length mc))[j]? = some u → w.cell? ⟨g, i * 7 + j, none⟩ = some u) ∧ Ir 0 w (.slice mo r.2.ms.length mc) r.2.ms ∧ (∀ k, (Value.slice mo r.2.ms.length mc).ownBlock = some k → D k) ∧ r.2.ms.length ≤ 1000000 := by
  obtain ⟨xs, h1, h2, h3⟩ := h
  obtain ⟨mv, k1, k2, k3, k4⟩ := h3 i r hi
  obtain ⟨mo, mc, rfl, _⟩ := k2.slice
  rcases h1.2 with ⟨e1, e2⟩ | ⟨g, cap', cur, e1, _⟩
  · have := (List.getElem?_eq_some_iff.1 hi).1; omega
  · cases e1
    refine ⟨g, mo, mc, rfl, h2 g rfl, fun j u hj => ?_, k2, k3, k4⟩
    have := World.ownsRow.cells h1 (g := g) rfl (i * 7 + j) u (k1 j u hj)
    rwa [Addr.add_lit, Nat.zero_add] at this
theorem En.seven {w : World} {g n : Nat} {r : Rw} {mv : Value} (h : ∀ (j : Nat) (u : Value), (rwCells r mv)[j]? = some u → w.cell? ⟨g, n + j, none⟩ = some u) :
    w.cell? ⟨g, n, none⟩ = some (.int .i64 r.1) ∧ w.cell? ⟨g, n + 1, none⟩ = some (.int .i64 r.2.kind) ∧ w.cell? ⟨g, n + 2, none⟩ = some (.int .i64 r.2.client) ∧ w.cell? ⟨g, n + 3, none⟩ = some (.int .i64 r.2.seq) ∧ w.cell? ⟨g, n + 4, none⟩ = some (.string r.2.text) ∧ w.cell? ⟨g, n + 5, none⟩ = some mv ∧ w.cell? ⟨g, n + 6, none⟩ = some (.int .i64 r.2.dest) :=
  ⟨h 0 _ rfl, h 1 _ rfl, h 2 _ rfl, h 3 _ rfl, h 4 _ rfl, h 5 _ rfl, h 6 _ rfl⟩
end Go.Proofs.YtjplhiflemmkfaaGreatDoor.Hh
namespace Go.Proofs.YtjplhiflemmkfaaGreatDoor.Hh
open Go.RowKit Go.Maps

/-- the row at an index; its term. -/
def rowAt (b : Int) (rs : List Rw) (i : Int) : Option Rw := if b < i then rs[(i - b - 1).toNat]? else none
def termOf (b : Int) (rs : List Rw) (i : Int) : Int := match rowAt b rs i with | some r => r.1 | none => 0
def aheadOf (b : Int) (rs : List Rw) (i : Int) : Nat := if i ≤ b then 0 else min (i - b - 1).toNat rs.length
/-- numbers that are not too great. -/
structure Fit (b : Int) (rs : List Rw) : Prop where
  b0 : 0 ≤ b
  b1 : b ≤ 1000000
  n1 : rs.length ≤ 1000000
theorem rowAt_none {b : Int} {rs : List Rw} {i : Int} (h : ¬ (b < i ∧ i ≤ b + (rs.length : Int))) : rowAt b rs i = none := by
  unfold rowAt
  split
  · rw [List.getElem?_eq_none_iff]; omega
  · rfl
theorem rowAt_some {b : Int} {rs : List Rw} {i : Int} (h : b < i ∧ i ≤ b + (rs.length : Int)) : ∃ r, rowAt b rs i = some r ∧ rs[(i - b - 1).toNat]? = some r := by
  unfold rowAt
  rw [if_pos h.1]
  have : (i - b - 1).toNat < rs.length := by omega
  exact ⟨_, List.getElem?_eq_getElem this, List.getElem?_eq_getElem this⟩

set_option maxHeartbeats 1000000 in
theorem last_any {D : Nat → Prop} {w : World} {p : Nat} {b : Int} {rs : List Rw} (h : Hs D w p b rs) (hf : Fit b rs) :
    Calls Tryz.prog 113 #[.pointer (some ⟨p, 0, none⟩)] w fun e w' => e = .returned (.int .i64 (b + (rs.length : Int))) ∧ Below w.heap.size w w' := by
  obtain ⟨⟨rv, hbx, hr⟩, _, _⟩ := h
  obtain ⟨ao, cap, rfl, _⟩ := hr.slice
  obtain ⟨h0, h1, h2⟩ := hf
  obtain ⟨n, hn⟩ : ∃ n, rs.length = n := ⟨_, rfl⟩
  rw [hn] at hbx h2 ⊢
  have c0 : w.cell? ⟨p, 0, none⟩ = some (.int .i64 b) := (cell_of_block hbx).trans rfl
  have c1 : w.cell? ⟨p, 1, none⟩ = some (.slice ao n cap) := (cell_of_block hbx).trans rfl
  have wr : IntKind.i64.wrap (b + (n : Int)) = b + (n : Int) := IntWalk.i64_in _ (by omega)
  clear hbx hr hn
  go_enter Tryz.func113, Tryz.ntmps113
  go_wp2_with fail
  go_quiet (fail)
  go_wp2
  go_ret
  exact ⟨rfl, drewN_below _ _⟩

set_option maxHeartbeats 1000000 in
theorem has_any {D : Nat → Prop} {w : World} {p : Nat} {b : Int} {rs : List Rw} (h : Hs D w p b rs) (hf : Fit b rs) (i : Int) :
    Calls Tryz.prog 164 #[.pointer (some ⟨p, 0, none⟩), .int .i64 i] w fun e w' => e = .returned (.bool (decide (b < i ∧ i ≤ b + (rs.length : Int)))) ∧ Below w.heap.size w w' := by
  have LA := hide (fun Y (hY : Below w.heap.size w Y) => last_any (h.below hY) hf)
  obtain ⟨⟨rv, hbx, hr⟩, _, _⟩ := h
  have c0 : w.cell? ⟨p, 0, none⟩ = some (.int .i64 b) := (cell_of_block hbx).trans rfl
  obtain ⟨L, hL⟩ : ∃ L, b + (rs.length : Int) = L := ⟨_, rfl⟩
  rw [hL] at LA ⊢
  have L0 := hide (unhide LA w (Below.refl _ _))
  clear hbx hr hL hf LA
  by_cases h1 : b < i
  · by_cases h2 : i ≤ L
    · rw [decide_eq_true ⟨h1, h2⟩]
      go_enter Tryz.func164, Tryz.ntmps164
      go_wp2_with fail
      refine (unhide L0).mono ?_
      rintro e w1 ⟨rfl, b1⟩
      have B1 := hide b1
      clear b1 L0
      go_wp2
      go_ret
      exact ⟨rfl, unhide B1⟩
    · rw [decide_eq_false (fun e => h2 e.2)]
      go_enter Tryz.func164, Tryz.ntmps164
      go_wp2_with fail
      refine (unhide L0).mono ?_
      rintro e w1 ⟨rfl, b1⟩
      have B1 := hide b1
      clear b1 L0
      go_wp2
      go_ret
      exact ⟨by show Ending.returned (.bool (decide (i ≤ L))) = _; rw [decide_eq_false (by omega)], unhide B1⟩
  · rw [decide_eq_false (fun e => h1 e.1)]
    go_enter Tryz.func164, Tryz.ntmps164
    go_wp2
    go_ret
    exact ⟨rfl, Below.refl _ _⟩

set_option maxHeartbeats 1000000 in
theorem ahead_any {D : Nat → Prop} {w : World} {p : Nat} {b : Int} {rs : List Rw} (h : Hs D w p b rs) (hf : Fit b rs) (i : Int) :
    Calls Tryz.prog 166 #[.pointer (some ⟨p, 0, none⟩), .int .i64 i] w fun e w' => e = .returned (.int .i64 ((aheadOf b rs i : Nat) : Int)) ∧ Below w.heap.size w w' := by
  have L0 := hide (last_any h hf)
  obtain ⟨⟨rv, hbx, hr⟩, _, _⟩ := h
  obtain ⟨ao, cap, rfl, _⟩ := hr.slice
  obtain ⟨h0, h1, h2⟩ := hf
  have HX := hide hbx
  have c0 : w.cell? ⟨p, 0, none⟩ = some (.int .i64 b) := (cell_of_block hbx).trans rfl
  obtain ⟨n, hn⟩ : ∃ n, rs.length = n := ⟨_, rfl⟩
  obtain ⟨k, hk⟩ : ∃ k, aheadOf b rs i = k := ⟨_, rfl⟩
  have HK : Hid ((if i ≤ b then 0 else min (i - b - 1).toNat n) = k) := by show _ = _; rw [← hk, ← hn]; rfl
  rw [hn] at L0 HX h2
  rw [hk]
  clear hbx hr hn hk
  by_cases g1 : i ≤ b
  · obtain rfl : 0 = k := by have := unhide HK; rwa [if_pos g1] at this
    go_enter Tryz.func166, Tryz.ntmps166
    go_wp2
    go_ret
    exact ⟨rfl, Below.refl _ _⟩
  · have hk2 := unhide HK
    rw [if_neg g1] at hk2
    by_cases g2 : b + (n : Int) < i
    · obtain rfl : n = k := by omega
      clear hk2 HK
      go_enter Tryz.func166, Tryz.ntmps166
      go_wp2_with fail
      refine (unhide L0).mono ?_
      rintro e w1 ⟨rfl, b1⟩
      have hx1 := Below.stay b1 (unhide HX)
      have c1 : w1.cell? ⟨p, 1, none⟩ = some (.slice ao n cap) := (cell_of_block hx1).trans rfl
      have B1 := hide b1
      clear b1 L0 hx1
      go_wp2
      go_ret
      exact ⟨rfl, unhide B1⟩
    · have e1 : i - b - 1 = (k : Int) := by omega
      have w1 : IntKind.i64.wrap (i - b) = (k : Int) + 1 := by rw [IntWalk.i64_in _ (by omega)]; omega
      clear hk2 HK
      go_enter Tryz.func166, Tryz.ntmps166
      go_wp2_with fail
      refine (unhide L0).mono ?_
      rintro e w1 ⟨rfl, b1⟩
      have hx1 := Below.stay b1 (unhide HX)
      have c1 : w1.cell? ⟨p, 0, none⟩ = some (.int .i64 b) := (cell_of_block hx1).trans rfl
      have B1 := hide b1
      clear b1 L0 hx1
      go_wp2
      go_ret
      exact ⟨rfl, unhide B1⟩
end Go.Proofs.YtjplhiflemmkfaaGreatDoor.Hh
