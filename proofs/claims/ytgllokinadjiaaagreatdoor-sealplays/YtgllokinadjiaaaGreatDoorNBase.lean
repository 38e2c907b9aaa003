/- Words for all texts of this seat: what a call keeps, rows of the call's own, hidden facts. Slices of numbers: what can be read, rows of the call's own, append. Generations in memory: what is kept, rows of generations. Plain numbers: the sum by halves of bytes, the sum bit by bit, that they are one, and that a step loses nothing. -/
import Derived.Test.YtgllokinadjiaaaGreatDoorProg
import Derived.WalkKit
import Derived.WalkSpells
import Derived.WalkLawsBesides
import Derived.LaidEql
import Derived.Stop.Asserts
import Derived.RowKitTokens
import Derived.Deep.LoopGhost
import Derived.Laws.BitsAllLaws
import Derived.Laws.AppendOwnNone
import Derived.Maps.AppendAt
import Derived.Deep.AppendSrc
import Derived.Deep.Upon
import Derived.Deep.QuietTactic
import Derived.BigQuiet
import Derived.Deep.DeepCutAuto
import Derived.Deep.CutBlock
import Derived.Deep.RegionWith
import Derived.Deep.RegionLaw
import Derived.Deep.RegionHeld3
import Derived.Deep.DrawnRows
namespace Go.Proofs.YtgllokinadjiaaaGreatDoor
open Go.RowKit

theorem hide {p : Prop} (h : p) : Hid p := h
theorem unhide {p : Prop} (h : Hid p) : p := h
theorem ret_int {k : IntKind} {a b : Int} (h : a = b) : Ending.returned (.int k a) = .returned (.int k b) := by rw [h]

theorem blk_lt {w : World} {a : Addr} {u : Value} (h : w.cell? a = some u) : a.block < w.heap.size := by
  simp only [World.cell?] at h
  by_cases hb : a.block < w.heap.size
  · exact hb
  · rw [Array.getElem?_eq_none (by omega)] at h; simp at h

theorem take_succ {α : Type} (bs : List α) (d : α) (k : Nat) (h : k < bs.length) : bs.take (k + 1) = bs.take k ++ [bs.getD k d] := by
  rw [List.take_succ_eq_append_getElem h, List.getD_eq_getElem?_getD, List.getElem?_eq_getElem h]; rfl

/-! ### what a call keeps: all below a block; above it all blocks but those of some types -/
def Only (base : Nat) (ts : List TypeId) (w w' : World) : Prop :=
  Below base w w' ∧ ∀ k, k < w.heap.size → (∀ cur e fr, w.heap[k]? = some (.cells cur e fr) → e ∉ ts) → w'.heap[k]? = w.heap[k]?

theorem Only.refl (base : Nat) (ts : List TypeId) (w : World) : Only base ts w w := ⟨Below.refl _ _, fun _ _ _ => rfl⟩
theorem Only.trans {base : Nat} {ts : List TypeId} {a b c : World} (h : Only base ts a b) (k : Only base ts b c) : Only base ts a c := by
  refine ⟨h.1.trans k.1, fun j hj ht => ?_⟩
  have e := h.2 j hj ht
  rw [← e]
  exact k.2 j (Nat.lt_of_lt_of_le hj h.1.size) (fun cur ty fr hc => ht cur ty fr (e ▸ hc))
theorem Only.mono {base base' : Nat} {ts ts' : List TypeId} {w w' : World} (h : Only base ts w w') (hb : base' ≤ base) (ht : ts ⊆ ts') : Only base' ts' w w' :=
  ⟨h.1.mono hb, fun k hk h' => h.2 k hk (fun cur e fr hc hm => h' cur e fr hc (ht hm))⟩
theorem Only.of_below {base : Nat} {ts : List TypeId} {w w' : World} (h : Below w.heap.size w w') (hb : base ≤ w.heap.size) : Only base ts w w' :=
  ⟨h.mono hb, fun k hk _ => h.block k hk⟩
theorem Only.below {base : Nat} {ts : List TypeId} {w w' : World} (h : Only base ts w w') : Below base w w' := h.1
theorem Only.size {base : Nat} {ts : List TypeId} {w w' : World} (h : Only base ts w w') : w.heap.size ≤ w'.heap.size := h.1.size
theorem Only.alloc {base : Nat} {ts : List TypeId} {a w : World} (h : Only base ts a w) (hb : base ≤ w.heap.size) (o : Obj) : Only base ts a (w.alloc o) :=
  h.trans (Only.of_below ((Below.refl _ _).alloc (Nat.le_refl _) o) hb)
theorem Only.grown {base : Nat} {ts : List TypeId} {a w w' : World} {row : Option Nat} (h : Only base ts a w) (hg : w.grownBy w' row) (hb : base ≤ w.heap.size)
    (hr : ∀ k, row = some k → base ≤ k ∧ ∃ cur e fr, w.heap[k]? = some (.cells cur e fr) ∧ e ∈ ts) : Only base ts a w' := by
  refine h.trans ⟨(Below.refl _ _).grown hg hb (fun k hk => (hr k hk).1), fun k hk ht => ?_⟩
  obtain ⟨_, _, _, _, hold⟩ := hg
  refine hold k hk ?_
  intro hk'
  obtain ⟨_, cur, e, fr, hc, he⟩ := hr k hk'.symm
  exact ht cur e fr hc he
theorem heap_setCell_tag {w : World} {p : Addr} {u : Value} {cur : Array Value} {e : TypeId} {fr : Nat × Nat} (h : w.heap[p.block]? = some (.cells cur e fr)) : ∃ cur', (w.setCell p u).heap[p.block]? = some (.cells cur' e fr) := by
  simp [World.setCell, Array.getElem?_modify, h]
theorem Only.setCell {base : Nat} {ts : List TypeId} {a w : World} (h : Only base ts a w) {p : Addr} (hp : base ≤ p.block) (u : Value) {cur : Array Value} {e : TypeId} {fr : Nat × Nat}
    (hc : w.heap[p.block]? = some (.cells cur e fr)) (he : e ∈ ts) : Only base ts a (w.setCell p u) := by
  refine h.trans ⟨(Below.refl _ _).setCell hp u, fun k _ ht => ?_⟩
  refine Below.heap_setCell w p u k ?_
  intro e0
  subst e0
  exact ht _ _ _ hc he
theorem Only.drew {base : Nat} {ts : List TypeId} {a w : World} (h : Only base ts a w) : Only base ts a w.drew := ⟨h.1.drew, h.2⟩
/-- a block of another type stays. -/
theorem Only.block {base : Nat} {ts : List TypeId} {w w' : World} (h : Only base ts w w') {k : Nat} {cur : Array Value} {e : TypeId} {fr : Nat × Nat} (hc : w.heap[k]? = some (.cells cur e fr)) (he : e ∉ ts) :
    w'.heap[k]? = some (.cells cur e fr) := by
  have hk : k < w.heap.size := by
    by_cases hk : k < w.heap.size
    · exact hk
    · rw [Array.getElem?_eq_none (by omega)] at hc; cases hc
  rw [h.2 k hk (fun cur' e' fr' hc' => by rw [hc] at hc'; cases hc'; exact he)]; exact hc
theorem Only.cells {base : Nat} {ts : List TypeId} {w w' : World} (h : Only base ts w w') {k : Nat} {cur : Array Value} {e : TypeId} {fr : Nat × Nat} (hc : w.heap[k]? = some (.cells cur e fr)) (he : e ∉ ts) :
    ∀ o, w'.cell? ⟨k, o, none⟩ = w.cell? ⟨k, o, none⟩ := fun o => World.cell?_of_block (w := w) (a := ⟨k, o, none⟩) (by rw [h.block hc he]; exact hc.symm)

/-! ### rows of bytes of the call's own -/
theorem own_tag {w : World} {base : Nat} {e : TypeId} {size : Nat} {v : Value} {n : Nat} {xs : List Value} (h : w.ownsRow base e size v n xs) : ∀ k, v.ownBlock = some k → base ≤ k ∧ ∃ cur fr, w.heap[k]? = some (.cells cur e fr) := by
  intro k hk
  rcases h.2 with ⟨rfl, _⟩ | ⟨g, cap, cur, rfl, hb, hh, _⟩
  · simp [Value.ownBlock] at hk
  · simp [Value.ownBlock] at hk; subst hk; exact ⟨hb, cur, _, hh⟩
theorem own_kept {w w' : World} {base : Nat} {e : TypeId} {size : Nat} {v : Value} {n : Nat} {xs : List Value} (h : w.ownsRow base e size v n xs) (hk : ∀ k, v.ownBlock = some k → w'.heap[k]? = w.heap[k]?) : w'.ownsRow base e size v n xs := by
  refine ⟨h.1, ?_⟩
  rcases h.2 with h0 | ⟨g, cap, cur, rfl, hb, hh, rest⟩
  · exact Or.inl h0
  · exact Or.inr ⟨g, cap, cur, rfl, hb, by rw [hk g rfl]; exact hh, rest⟩
theorem own_only {w w' : World} {base base' : Nat} {ts : List TypeId} {e : TypeId} {size : Nat} {v : Value} {n : Nat} {xs : List Value} (h : w.ownsRow base e size v n xs) (ho : Only base' ts w w') (he : e ∉ ts) : w'.ownsRow base e size v n xs :=
  own_kept h fun k hk => by
    obtain ⟨_, cur, fr, hc⟩ := own_tag h k hk
    rw [ho.block hc he, hc]
theorem own_below {w w' : World} {base : Nat} {e : TypeId} {size : Nat} {v : Value} {n : Nat} {xs : List Value} (h : w.ownsRow base e size v n xs) (hb : Below w.heap.size w w') : w'.ownsRow base e size v n xs :=
  own_kept h fun k hk => hb.block k (h.lt k hk).2
theorem Only.own {base base' : Nat} {ts : List TypeId} {a w w' : World} {e : TypeId} {size : Nat} {v : Value} {n : Nat} {xs : List Value} (h : Only base ts a w) (hown : w.ownsRow base' e size v n xs) (hg : w.grownBy w' v.ownBlock) (hb : base ≤ w.heap.size) (hbb : base ≤ base') (he : e ∈ ts) : Only base ts a w' :=
  h.grown hg hb fun k hk => by
    obtain ⟨h1, cur, fr, h2⟩ := own_tag hown k hk
    exact ⟨Nat.le_trans hbb h1, cur, e, fr, h2, he⟩

theorem add_block (a : Addr) (i : Nat) : (a.add i).block = a.block := by unfold Addr.add; split <;> rfl
theorem news_at {W : World} {cs : Array Value} {t : TypeId} : ∀ j u, cs.toList[j]? = some u → (W.alloc (.cells cs t)).cell? ((⟨W.heap.size, 0, none⟩ : Addr).add j) = some u := by
  intro j u hj
  rw [Addr.add_lit]
  have : (W.alloc (.cells cs t)).heap[W.heap.size]? = some (.cells cs t) := heap_alloc_new _ _
  simp only [World.cell?, this]
  simpa using hj
/-! ### what a call keeps, block by block: all below a block, and above it all but some -/
def Kept (base : Nat) (f : Nat → Prop) (w w' : World) : Prop := Below base w w' ∧ ∀ k, k < w.heap.size → ¬ f k → w'.heap[k]? = w.heap[k]?
theorem Kept.refl (base : Nat) (f : Nat → Prop) (w : World) : Kept base f w w := ⟨Below.refl _ _, fun _ _ _ => rfl⟩
theorem Kept.trans {base : Nat} {f g : Nat → Prop} {a b c : World} (h : Kept base f a b) (k : Kept base g b c) (hg : ∀ j, j < a.heap.size → g j → f j) : Kept base f a c :=
  ⟨h.1.trans k.1, fun j hj hn => (k.2 j (Nat.lt_of_lt_of_le hj h.1.size) (fun x => hn (hg j hj x))).trans (h.2 j hj hn)⟩
theorem Kept.mono {base base' : Nat} {f g : Nat → Prop} {w w' : World} (h : Kept base f w w') (hb : base' ≤ base) (hg : ∀ j, j < w.heap.size → f j → g j) : Kept base' g w w' :=
  ⟨h.1.mono hb, fun k hk hn => h.2 k hk (fun x => hn (hg k hk x))⟩
theorem Kept.of_below {base : Nat} {f : Nat → Prop} {w w' : World} (h : Below w.heap.size w w') (hb : base ≤ w.heap.size) : Kept base f w w' := ⟨h.mono hb, fun k hk _ => h.block k hk⟩
theorem Kept.size {base : Nat} {f : Nat → Prop} {w w' : World} (h : Kept base f w w') : w.heap.size ≤ w'.heap.size := h.1.size
theorem Kept.setCell {base : Nat} {f : Nat → Prop} {a w : World} (h : Kept base f a w) {p : Addr} (hp : base ≤ p.block) (hf : f p.block) (u : Value) : Kept base f a (w.setCell p u) :=
  h.trans (g := fun k => k = p.block) ⟨(Below.refl _ _).setCell hp u, fun k _ hn => Below.heap_setCell w p u k hn⟩ (fun _ _ e => e ▸ hf)
theorem Kept.alloc {base : Nat} {f : Nat → Prop} {a w : World} (h : Kept base f a w) (hb : base ≤ w.heap.size) (o : Obj) : Kept base f a (w.alloc o) :=
  h.trans (g := f) (Kept.of_below ((Below.refl _ _).alloc (Nat.le_refl _) o) hb) (fun _ _ x => x)
theorem Kept.drew {base : Nat} {f : Nat → Prop} {a w : World} (h : Kept base f a w) : Kept base f a w.drew := ⟨h.1.drew, h.2⟩
theorem Kept.own {base base' : Nat} {f : Nat → Prop} {w w' : World} {e : TypeId} {size : Nat} {v : Value} {n : Nat} {xs : List Value} (h : Kept base f w w') (hown : w.ownsRow base' e size v n xs) (hn : ∀ k, v.ownBlock = some k → ¬ f k) : w'.ownsRow base' e size v n xs :=
  own_kept hown fun k hk => h.2 k (hown.lt k hk).2 (hn k hk)
end Go.Proofs.YtgllokinadjiaaaGreatDoor
namespace Go.Proofs.YtgllokinadjiaaaGreatDoor
open Go.RowKit Go.Maps

theorem drewN_below (w : World) (k : Nat) : Below w.heap.size w (w.drewN k) := ⟨rfl, rfl, rfl, Nat.le_refl _, fun _ _ => rfl⟩
theorem Tryz.infoI : (Tryz.prog.info? 3).map (fun i => (i.zero, i.size, i.bytes)) = some (some (.int .i64 0), 1, 8) := by kernel_rfl
/-- a slice of numbers. -/
def IntsR (w : World) (ao : Option Addr) (ys : List Int) : Prop := ∀ i, i < ys.length → ∃ a, ao = some a ∧ w.cell? (a.add i) = some (.int .i64 (ys.getD i 0))
theorem IntsR.below {w w' : World} {ao : Option Addr} {ys : List Int} (h : IntsR w ao ys) (hb : Below w.heap.size w w') : IntsR w' ao ys := fun i hi => by
  obtain ⟨a, e, hc⟩ := h i hi
  exact ⟨a, e, by rw [hb.cell (blk_lt hc)]; exact hc⟩
theorem IntsR.nil (w : World) (ao : Option Addr) : IntsR w ao [] := fun i hi => by simp at hi
theorem IntsR.none_nil {w : World} {ys : List Int} (h : IntsR w none ys) : ys = [] := by
  cases ys with
  | nil => rfl
  | cons y ys => obtain ⟨a, e, _⟩ := h 0 (by simp); cases e
theorem ext_getD {xs ys : List Int} (h : xs.length = ys.length) (hj : ∀ j, j < xs.length → xs.getD j 0 = ys.getD j 0) : xs = ys := by
  apply List.ext_getElem h
  intro i h1 h2
  have := hj i h1
  rw [List.getD_eq_getElem?_getD, List.getD_eq_getElem?_getD, List.getElem?_eq_getElem h1, List.getElem?_eq_getElem h2] at this
  simpa using this
theorem drop_getD {xs : List Int} {k : Nat} (h : k < xs.length) : xs.drop k = xs.getD k 0 :: xs.drop (k + 1) := by
  rw [List.drop_eq_getElem_cons h, List.getD_eq_getElem?_getD, List.getElem?_eq_getElem h]; rfl
theorem mem_getD {xs : List Int} {k : Nat} (h : k < xs.length) : xs.getD k 0 ∈ xs := by
  rw [List.getD_eq_getElem?_getD, List.getElem?_eq_getElem h]; exact List.getElem_mem h

/-! ### such as the library's contracts speak of: no element of an array within a struct -/
def Fr (w : World) (ao : Option Addr) (ys : List Int) : Prop := IntsR w ao ys ∧ ∀ a, ao = some a → ∃ b off, a = ⟨b, off, none⟩
theorem Fr.below {w w' : World} {ao : Option Addr} {ys : List Int} (h : Fr w ao ys) (hb : Below w.heap.size w w') : Fr w' ao ys := ⟨h.1.below hb, h.2⟩
theorem Fr.take {w : World} {ao : Option Addr} {ys : List Int} (h : Fr w ao ys) (n : Nat) : Fr w ao (ys.take n) := by
  refine ⟨fun i hi => ?_, h.2⟩
  rw [List.length_take] at hi
  obtain ⟨a, e, hc⟩ := h.1 i (by omega)
  refine ⟨a, e, ?_⟩
  rw [hc, List.getD_eq_getElem?_getD, List.getD_eq_getElem?_getD, List.getElem?_take_of_lt (by omega)]
theorem Fr.at {w : World} {ao : Option Addr} {ys : List Int} (h : Fr w ao ys) : ys = [] ∨ ∃ b off, ao = some ⟨b, off, none⟩ ∧ ∀ j, j < ys.length → w.cell? ⟨b, off + j, none⟩ = some (.int .i64 (ys.getD j 0)) := by
  by_cases hy : ys = []
  · exact Or.inl hy
  · right
    have h0 : 0 < ys.length := List.length_pos_iff.2 hy
    obtain ⟨a, rfl, _⟩ := h.1 0 h0
    obtain ⟨b, off, rfl⟩ := h.2 a rfl
    refine ⟨b, off, rfl, fun j hj => ?_⟩
    obtain ⟨a', e, hc⟩ := h.1 j hj
    cases e
    rw [Addr.add_lit] at hc; exact hc

/-! ### rows of the call's own -/
def i64s (ys : List Int) : List Value := ys.map (Value.int .i64)
theorem i64s_append (xs ys : List Int) : i64s (xs ++ ys) = i64s xs ++ i64s ys := by simp [i64s]
theorem i64s_one (ys : List Int) : ∀ u ∈ i64s ys, u.oneCell' = true := fun u hu => by
  simp only [i64s, List.mem_map] at hu; obtain ⟨y, _, rfl⟩ := hu; rfl
/-- v is a row of the call's own, of the numbers ys. -/
def Ir (base : Nat) (w : World) (v : Value) (ys : List Int) : Prop := w.ownsRow base 3 1 v ys.length (i64s ys)
theorem Ir.below {base : Nat} {w w' : World} {v : Value} {ys : List Int} (h : Ir base w v ys) (hb : Below w.heap.size w w') : Ir base w' v ys := own_below h hb
theorem Ir.nil (base : Nat) (w : World) : Ir base w (.slice none 0 0) [] := ⟨by simp [i64s], Or.inl ⟨rfl, rfl⟩⟩
theorem Ir.slice {base : Nat} {w : World} {v : Value} {ys : List Int} (h : Ir base w v ys) : ∃ ao cap, v = .slice ao ys.length cap ∧ Fr w ao ys ∧ ys.length ≤ cap ∧ cap ≤ maxLen := by
  rcases h.2 with ⟨rfl, h0⟩ | ⟨g, cap, cur, rfl, hb, hh, hc, hm, hs, ht⟩
  · have : ys = [] := List.eq_nil_of_length_eq_zero h0
    subst this
    exact ⟨none, 0, rfl, ⟨IntsR.nil _ _, fun a ha => by cases ha⟩, Nat.le_refl _, by decide⟩
  · refine ⟨_, cap, rfl, ⟨fun i hi => ⟨_, rfl, ?_⟩, fun a ha => ⟨g, 0, by cases ha; rfl⟩⟩, hc, hm⟩
    refine World.ownsRow.cells h (g := g) rfl i _ ?_
    rw [i64s, List.getElem?_map, List.getElem?_eq_getElem hi, List.getD_eq_getElem?_getD, List.getElem?_eq_getElem hi]; rfl
/-- append: the source may be nil; an operation's law. -/
theorem wpList_app {w : World} {ops : Array Oper} {rest : List Oper} {o : Oper} {a : Act} {Q : Exit → Act → World → Prop} (hgd : o.guard = none) (s x : Operand)
    (ho : o.op = .call { callee := .builtin .append, args := #[s, x], argTypes := #[22, 22] }) (base : Nat) (v : Value) (xs : List Int) (hs : a.eval s = v) (hown : Ir base w v xs)
    (ao : Option Addr) (m c : Nat) (ys : List Int) (hx : a.eval x = .slice ao m c) (hm : ys.length = m) (hy : IntsR w ao ys) (hl : xs.length + m ≤ 1000000000) (hb : base ≤ w.heap.size)
    (h : ∀ v' w', Ir base w' v' (xs ++ ys) → w.grownBy w' v.ownBlock → wpList Tryz.prog ops Q rest (a.put o.dst v') w') : wpList Tryz.prog ops Q (o :: rest) a w := by
  obtain ⟨i0, hi0, hz0, hz1, hz2⟩ := info_parts Tryz.infoI
  refine wpList_plain hgd fun K hK => ?_
  have key : ∃ v' w', (Builtin.append_ #[22, 22] o.type #[v, .slice ao m c]).run Tryz.prog w = .ok v' w' ∧ Ir base w' v' (xs ++ ys) ∧ w.grownBy w' v.ownBlock := by
    cases ao with
    | none =>
      obtain rfl := hy.none_nil
      simp only [List.length_nil] at hm
      subst hm
      obtain ⟨av, cv, rfl, _, hc, _⟩ := hown.slice
      have hr := run_append_nothing (P := Tryz.prog) w 22 22 o.type 3 i0 Tryz.underlying22 hi0 av xs.length cv hc (.slice none 0 c) (Src.ofNil w Tryz.underlying22 c)
      exact ⟨_, _, hr, by simpa using hown, ⟨rfl, rfl, rfl, Nat.le_refl _, fun _ _ _ => rfl⟩⟩
    | some ad =>
      obtain ⟨v', w', hr, o', g', _⟩ := run_append_own_at (P := Tryz.prog) w base 22 o.type 3 i0 _ 1 8 Tryz.underlying22 hi0 hz0 hz1 hz2 rfl (by decide) v xs.length (i64s xs) hown ad m c (i64s ys) (by rw [i64s, List.length_map, hm]; omega)
        (fun j u hj => by
          rw [i64s, List.getElem?_map] at hj
          cases hq : ys[j]? with
          | none => rw [hq] at hj; simp at hj
          | some y =>
            rw [hq] at hj; simp at hj; subst hj
            obtain ⟨a, e, hcell⟩ := hy j (List.getElem?_eq_some_iff.1 hq).1
            cases e
            rw [hcell, List.getD_eq_getElem?_getD, hq]; rfl)
        (i64s_one ys) (by unfold maxLen; omega) (by omega) hb
      refine ⟨v', w', hr, ?_, g'⟩
      unfold Ir
      rw [List.length_append, hm, i64s_append]; exact o'
  obtain ⟨v', w', hr, h1, h2⟩ := key
  unfold Oper.wp execOp
  simp only [ho, resolve, invoke, builtin, Sem.run_bind, Sem.run_pure, Result.andThen_ok, List.map_toArray, List.map_cons, List.map_nil, hs, hx, hr]
  exact hK _ _ (h v' w' h1 h2)
theorem Ir.grown {base : Nat} {a w w' : World} {v : Value} {xs : List Int} (h : Ir base w v xs) (hg : w.grownBy w' v.ownBlock) (hb : Below base a w) (hbb : base ≤ w.heap.size) : Below base a w' :=
  hb.grown hg hbb (fun k hk => (h.lt k hk).1)
end Go.Proofs.YtgllokinadjiaaaGreatDoor
namespace Go.Proofs.YtgllokinadjiaaaGreatDoor
open Go.RowKit Go.Maps

theorem heap_lt {w : World} {k : Nat} {o : Obj} (h : w.heap[k]? = some o) : k < w.heap.size := by
  by_cases hh : k < w.heap.size
  · exact hh
  · rw [Array.getElem?_eq_none (by omega)] at h; cases h
theorem cell_of_block {w : World} {p i : Nat} {cs : Array Value} {t : TypeId} {fr : Nat × Nat} (h : w.heap[p]? = some (.cells cs t fr)) : w.cell? ⟨p, i, none⟩ = cs[i]? := by
  simp [World.cell?, h]
theorem free_of_block {w : World} {p i : Nat} {cs : Array Value} {t : TypeId} (h : w.heap[p]? = some (.cells cs t (0, 0))) : w.frozen? ⟨p, i, none⟩ = false := by
  simp [World.frozen?, h]
theorem setCell_block {w : World} {p i : Nat} {u : Value} {cs : Array Value} {t : TypeId} {fr : Nat × Nat} (h : w.heap[p]? = some (.cells cs t fr)) : (w.setCell ⟨p, i, none⟩ u).heap[p]? = some (.cells (cs.setIfInBounds i u) t fr) := by
  simp [World.setCell, Array.getElem?_modify, h]
theorem Below.stay {w w' : World} (h : Below w.heap.size w w') {k : Nat} {o : Obj} (hk : w.heap[k]? = some o) : w'.heap[k]? = some o := (h.block k (heap_lt hk)).trans hk
theorem below_far {w w1 w2 : World} (h : Below w.heap.size w w1) (k : Below w1.heap.size w1 w2) : Below w.heap.size w w2 := h.trans (k.mono h.size)
theorem box_at (w : World) (o : Obj) : (w.alloc o).heap[w.heap.size]? = some o := heap_alloc_new _ _

/-! ### all but some blocks are kept -/
def Kp (D : Nat → Prop) (w w' : World) : Prop := Kept 0 D w w'
theorem Kp.refl (D : Nat → Prop) (w : World) : Kp D w w := Kept.refl _ _ _
theorem Kp.of_below {D : Nat → Prop} {w w' : World} (h : Below w.heap.size w w') : Kp D w w' := Kept.of_below h (Nat.zero_le _)
theorem Kp.size {D : Nat → Prop} {w w' : World} (h : Kp D w w') : w.heap.size ≤ w'.heap.size := Kept.size h
theorem Kp.trans {D E : Nat → Prop} {a b c : World} (h : Kp D a b) (k : Kp E b c) (he : ∀ j, j < a.heap.size → E j → D j) : Kp D a c := Kept.trans h k he
theorem Kp.mono {D E : Nat → Prop} {a b : World} (h : Kp D a b) (he : ∀ j, j < a.heap.size → D j → E j) : Kp E a b := Kept.mono h (Nat.le_refl _) he
theorem Kp.far {D : Nat → Prop} {a b c : World} (h : Kp D a b) (k : Below b.heap.size b c) : Kp D a c := h.trans (E := fun _ => False) (Kp.of_below k) (fun _ _ x => x.elim)
theorem Kp.block {D : Nat → Prop} {w w' : World} (h : Kp D w w') {k : Nat} {o : Obj} (hk : w.heap[k]? = some o) (hd : ¬ D k) : w'.heap[k]? = some o := (h.2 k (heap_lt hk) hd).trans hk
theorem Kp.cell {D : Nat → Prop} {w w' : World} (h : Kp D w w') {a : Addr} {u : Value} (ha : w.cell? a = some u) (hd : ¬ D a.block) : w'.cell? a = some u := by
  rw [World.cell?_of_block (w := w) (h.2 a.block (blk_lt ha) hd)]; exact ha
theorem Kp.below {D : Nat → Prop} {w w' : World} (h : Kp D w w') {base : Nat} (hd : ∀ k, D k → base ≤ k) (hb : base ≤ w.heap.size) : Below base w w' :=
  ⟨h.1.os, h.1.tape, h.1.output, h.1.size, fun k hk => h.2 k (by omega) (fun x => by have := hd k x; omega)⟩
theorem Kp.setCell {D : Nat → Prop} {a w : World} (h : Kp D a w) {p : Addr} (hf : D p.block) (u : Value) : Kp D a (w.setCell p u) := Kept.setCell h (Nat.zero_le _) hf u
theorem Kp.alloc {D : Nat → Prop} {a w : World} (h : Kp D a w) (o : Obj) : Kp D a (w.alloc o) := Kept.alloc h (Nat.zero_le _) o
theorem Kp.drew {D : Nat → Prop} {a w : World} (h : Kp D a w) : Kp D a w.drew := Kept.drew h
theorem Kp.grown {D : Nat → Prop} {a w w' : World} {row : Option Nat} (h : Kp D a w) (hg : w.grownBy w' row) (hr : ∀ k, k < a.heap.size → row = some k → D k) : Kp D a w' :=
  h.trans (E := fun k => row = some k) ⟨⟨hg.os, hg.tape, hg.output, hg.size, fun k hk => by omega⟩, fun k hk hn => hg.block k hk (fun e => hn e.symm)⟩ hr
/-- new blocks are nobody's. -/
def News (D : Nat → Prop) (w w' : World) (k : Nat) : Prop := D k ∨ (w.heap.size ≤ k ∧ k < w'.heap.size)

/-! ### numbers that lie in some blocks -/
def InF (F : Nat → Prop) (w : World) (ao : Option Addr) (ys : List Int) : Prop := ∀ i, i < ys.length → ∃ a, ao = some a ∧ F a.block ∧ w.cell? (a.add i) = some (.int .i64 (ys.getD i 0))
theorem InF.ints {F : Nat → Prop} {w : World} {ao : Option Addr} {ys : List Int} (h : InF F w ao ys) : IntsR w ao ys := fun i hi => by
  obtain ⟨a, h1, _, h3⟩ := h i hi
  exact ⟨a, h1, h3⟩
theorem InF.kp {F D : Nat → Prop} {w w' : World} {ao : Option Addr} {ys : List Int} (h : InF F w ao ys) (hk : Kp D w w') (hd : ∀ k, F k → ¬ D k) : InF F w' ao ys := fun i hi => by
  obtain ⟨a, h1, h2, h3⟩ := h i hi
  exact ⟨a, h1, h2, hk.cell h3 (by rw [add_block]; exact hd _ h2)⟩
theorem InF.below {F : Nat → Prop} {w w' : World} {ao : Option Addr} {ys : List Int} (h : InF F w ao ys) (hb : Below w.heap.size w w') : InF F w' ao ys := h.kp (D := fun _ => False) (Kp.of_below hb) (fun _ _ x => x)
theorem InF.mono {F G : Nat → Prop} {w : World} {ao : Option Addr} {ys : List Int} (h : InF F w ao ys) (hg : ∀ k, F k → G k) : InF G w ao ys := fun i hi => by
  obtain ⟨a, h1, h2, h3⟩ := h i hi
  exact ⟨a, h1, hg _ h2, h3⟩
theorem IntsR.inF {w : World} {ao : Option Addr} {ys : List Int} (h : IntsR w ao ys) : InF (fun k => k < w.heap.size) w ao ys := fun i hi => by
  obtain ⟨a, h1, h2⟩ := h i hi
  exact ⟨a, h1, by have := blk_lt h2; rwa [add_block] at this, h2⟩
theorem InF.nil (F : Nat → Prop) (w : World) (ao : Option Addr) : InF F w ao [] := fun i hi => by simp at hi
theorem Ir.inF {base : Nat} {w : World} {ao : Option Addr} {n c : Nat} {ys : List Int} (h : Ir base w (.slice ao n c) ys) : InF (fun k => (Value.slice ao n c).ownBlock = some k) w ao ys := fun i hi => by
  obtain ⟨ao', cap, e, hf, _⟩ := h.slice
  cases e
  obtain ⟨a, rfl, h2⟩ := hf.1 i hi
  exact ⟨a, rfl, rfl, h2⟩
theorem Ir.kp {base : Nat} {D : Nat → Prop} {w w' : World} {v : Value} {ys : List Int} (h : Ir base w v ys) (hk : Kp D w w') (hd : ∀ k, v.ownBlock = some k → ¬ D k) : Ir base w' v ys := Kept.own hk h hd
theorem Ir.zero {base : Nat} {w : World} {v : Value} {ys : List Int} (h : Ir base w v ys) : Ir 0 w v ys := by
  refine ⟨h.1, ?_⟩
  rcases h.2 with e | ⟨g, cap, cur, e1, e2, e3⟩
  · exact Or.inl e
  · exact Or.inr ⟨g, cap, cur, e1, Nat.zero_le _, e3⟩

/-! ### generations -/
structure Gn where
  n : Int
  eng : Int
  base : Int
  ms : List Int
def Gn.cells (g : Gn) (mv : Value) : List Value := [.int .i64 g.n, .int .i64 g.eng, .int .i64 g.base, .slice none 0 0, mv]
theorem Gn.cells_len (g : Gn) (mv : Value) : (g.cells mv).length = 5 := rfl
theorem Gn.cells_one (g : Gn) {mv : Value} (h : mv.oneCell' = true) : ∀ u ∈ g.cells mv, u.oneCell' = true := fun u hu => by
  simp only [Gn.cells, List.mem_cons, List.not_mem_nil, or_false] at hu
  rcases hu with rfl | rfl | rfl | rfl | rfl
  · rfl
  · rfl
  · rfl
  · rfl
  · exact h
/-- the five cells of a generation. -/
theorem Gn.five {w : World} {b n : Nat} {g : Gn} {mv : Value} (h : ∀ (j : Nat) (u : Value), (g.cells mv)[j]? = some u → w.cell? ⟨b, n + j, none⟩ = some u) :
    w.cell? ⟨b, n, none⟩ = some (.int .i64 g.n) ∧ w.cell? ⟨b, n + 1, none⟩ = some (.int .i64 g.eng) ∧ w.cell? ⟨b, n + 2, none⟩ = some (.int .i64 g.base) ∧ w.cell? ⟨b, n + 3, none⟩ = some (.slice none 0 0) ∧ w.cell? ⟨b, n + 4, none⟩ = some mv :=
  ⟨h 0 _ rfl, h 1 _ rfl, h 2 _ rfl, h 3 _ rfl, h 4 _ rfl⟩
/-- a row of generations, all in some blocks. -/
def GRow (D : Nat → Prop) (w : World) (rv : Value) (gs : List Gn) : Prop :=
  ∃ xs, w.ownsRow 0 26 5 rv gs.length xs ∧ (∀ k, rv.ownBlock = some k → D k) ∧
    ∀ (i : Nat) (g : Gn), gs[i]? = some g → ∃ mv, (∀ (j : Nat) (u : Value), (g.cells mv)[j]? = some u → xs[i * 5 + j]? = some u) ∧ Ir 0 w mv g.ms ∧ (∀ k, mv.ownBlock = some k → D k) ∧ g.ms.length ≤ 1000000
/-- generations at a block, all their memory within D. -/
structure Gs (D : Nat → Prop) (w : World) (p : Nat) (gs : List Gn) : Prop where
  box : ∃ rv, w.heap[p]? = some (.cells #[rv] 73 (0, 0)) ∧ GRow D w rv gs
  own : D p
  lt : ∀ k, D k → k < w.heap.size
theorem GRow.kp {D E : Nat → Prop} {w w' : World} {rv : Value} {gs : List Gn} (h : GRow D w rv gs) (hk : Kp E w w') (hd : ∀ k, D k → ¬ E k) : GRow D w' rv gs := by
  obtain ⟨xs, h1, h2, h3⟩ := h
  refine ⟨xs, Kept.own hk h1 (fun k e => hd k (h2 k e)), h2, fun i r hi => ?_⟩
  obtain ⟨mv, k1, k2, k3, k4⟩ := h3 i r hi
  exact ⟨mv, k1, k2.kp hk (fun k e => hd k (k3 k e)), k3, k4⟩
theorem GRow.below {D : Nat → Prop} {w w' : World} {rv : Value} {gs : List Gn} (h : GRow D w rv gs) (hb : Below w.heap.size w w') : GRow D w' rv gs := h.kp (E := fun _ => False) (Kp.of_below hb) (fun _ _ x => x)
theorem GRow.mono {D E : Nat → Prop} {w : World} {rv : Value} {gs : List Gn} (h : GRow D w rv gs) (hd : ∀ k, D k → E k) : GRow E w rv gs := by
  obtain ⟨xs, h1, h2, h3⟩ := h
  refine ⟨xs, h1, fun k e => hd k (h2 k e), fun i r hi => ?_⟩
  obtain ⟨mv, k1, k2, k3, k4⟩ := h3 i r hi
  exact ⟨mv, k1, k2, fun k e => hd k (k3 k e), k4⟩
theorem Gs.kp {D E : Nat → Prop} {w w' : World} {p : Nat} {gs : List Gn} (h : Gs D w p gs) (hk : Kp E w w') (hd : ∀ k, D k → ¬ E k) : Gs D w' p gs := by
  obtain ⟨⟨rv, h1, h2⟩, h3, h4⟩ := h
  exact ⟨⟨rv, hk.block h1 (hd p h3), h2.kp hk hd⟩, h3, fun k x => Nat.lt_of_lt_of_le (h4 k x) hk.size⟩
theorem Gs.below {D : Nat → Prop} {w w' : World} {p : Nat} {gs : List Gn} (h : Gs D w p gs) (hb : Below w.heap.size w w') : Gs D w' p gs := h.kp (E := fun _ => False) (Kp.of_below hb) (fun _ _ x => x)
theorem GRow.nil (D : Nat → Prop) (w : World) : GRow D w (.slice none 0 0) [] := ⟨[], ⟨rfl, Or.inl ⟨rfl, rfl⟩⟩, fun k e => by simp [Value.ownBlock] at e, fun i r hi => by simp at hi⟩
theorem GRow.slice {D : Nat → Prop} {w : World} {rv : Value} {gs : List Gn} (h : GRow D w rv gs) : ∃ ao cap, rv = .slice ao gs.length cap ∧ gs.length ≤ cap ∧ cap ≤ maxLen ∧ (ao = none → gs = [] ∧ cap = 0) := by
  obtain ⟨xs, h1, _, _⟩ := h
  rcases h1.2 with ⟨e1, e2⟩ | ⟨g, cap, cur, e1, _, _, e3, e4, _⟩
  · exact ⟨none, 0, by rw [e2]; exact e1, by omega, by decide, fun _ => ⟨List.eq_nil_of_length_eq_zero e2, rfl⟩⟩
  · exact ⟨_, cap, e1, e3, e4, fun e => by cases e⟩
theorem GRow.at {D : Nat → Prop} {w : World} {ao : Option Addr} {n cap : Nat} {gs : List Gn} (h : GRow D w (.slice ao n cap) gs) {i : Nat} {g : Gn} (hi : gs[i]? = some g) :
    ∃ b mo mc, ao = some ⟨b, 0, none⟩ ∧ D b ∧ w.cell? ⟨b, i * 5, none⟩ = some (.int .i64 g.n) ∧ w.cell? ⟨b, i * 5 + 1, none⟩ = some (.int .i64 g.eng) ∧ w.cell? ⟨b, i * 5 + 2, none⟩ = some (.int .i64 g.base) ∧ w.cell? ⟨b, i * 5 + 3, none⟩ = some (.slice none 0 0) ∧ w.cell? ⟨b, i * 5 + 4, none⟩ = some (.slice mo g.ms.length mc) ∧
      Ir 0 w (.slice mo g.ms.length mc) g.ms ∧ (∀ k, (Value.slice mo g.ms.length mc).ownBlock = some k → D k) ∧ g.ms.length ≤ 1000000 := by
  obtain ⟨xs, h1, h2, h3⟩ := h
  obtain ⟨mv, k1, k2, k3, k4⟩ := h3 i g hi
  obtain ⟨mo, mc, rfl, _⟩ := k2.slice
  rcases h1.2 with ⟨e1, e2⟩ | ⟨b, cap', cur, e1, _⟩
  · have := (List.getElem?_eq_some_iff.1 hi).1; omega
  · cases e1
    have hc : ∀ (j : Nat) (u : Value), (g.cells (.slice mo g.ms.length mc))[j]? = some u → w.cell? ⟨b, i * 5 + j, none⟩ = some u := fun j u hj => by
      have := World.ownsRow.cells h1 (g := b) rfl (i * 5 + j) u (k1 j u hj)
      rwa [Addr.add_lit, Nat.zero_add] at this
    obtain ⟨c0, c1, c2, c3, c4⟩ := Gn.five hc
    exact ⟨b, mo, mc, rfl, h2 b rfl, c0, c1, c2, c3, c4, k2, k3, k4⟩
theorem GRow.tag {D : Nat → Prop} {w : World} {v : Value} {gs : List Gn} (h : GRow D w v gs) : ∀ k, v.ownBlock = some k → D k ∧ ∃ cur fr, w.heap[k]? = some (.cells cur 26 fr) := fun k hk => by
  obtain ⟨xs, h1, h2, _⟩ := h
  exact ⟨h2 k hk, (own_tag h1 k hk).2⟩
theorem News.sub {D : Nat → Prop} {a b c : World} (hb : a.heap.size ≤ b.heap.size) (hc : b.heap.size ≤ c.heap.size) {k : Nat} (h : News (News D a b) b c k) : News D a c k := by
  rcases h with (h | h) | h
  · exact Or.inl h
  · exact Or.inr ⟨h.1, by omega⟩
  · exact Or.inr ⟨by omega, h.2⟩
theorem Ir.more {a c : Nat} {w : World} {v : Value} {ys : List Int} (h : Ir a w v ys) (hc : c ≤ a) : Ir c w v ys := by
  refine ⟨h.1, ?_⟩
  rcases h.2 with e | ⟨g, cap, cur, e1, e2, e3⟩
  · exact Or.inl e
  · exact Or.inr ⟨g, cap, cur, e1, Nat.le_trans hc e2, e3⟩
theorem Ir.other {base B : Nat} {y W : World} {v : Value} {ys : List Int} (h : Ir base y v ys) (hk : ∀ k, k ≠ B → W.heap[k]? = y.heap[k]?) {cs : Array Value} {t : TypeId} {fr : Nat × Nat} (hB : y.heap[B]? = some (.cells cs t fr)) (ht : t ≠ 3) : Ir base W v ys :=
  own_kept h fun k e => hk k (fun x => by
    subst x
    obtain ⟨_, cur, fr', hc⟩ := own_tag h k e
    rw [hB] at hc; cases hc; exact ht rfl)
theorem Ir.oneCell {base : Nat} {w : World} {v : Value} {ys : List Int} (h : Ir base w v ys) : v.oneCell' = true := by
  obtain ⟨ao, cap, rfl, _⟩ := h.slice; rfl
theorem Ir.grow {base : Nat} {w w' : World} {mv v : Value} {ys : List Int} {e : TypeId} {size n : Nat} {xs : List Value} (h : Ir base w mv ys) (ho : w.ownsRow 0 e size v n xs) (he : e ≠ 3) (hg : w.grownBy w' v.ownBlock) : Ir base w' mv ys :=
  own_kept h fun k hk => hg.block k (h.lt k hk).2 (fun x => by
    obtain ⟨_, cur, fr, hc⟩ := own_tag ho k x.symm
    obtain ⟨_, cur', fr', hc'⟩ := own_tag h k hk
    rw [hc] at hc'; cases hc'; exact he rfl)
/-- a store of a whole generation. -/
theorem five_end {w y : World} {B : Nat} {v0 v1 v2 v3 v4 : Value} {z0 z1 z2 z3 z4 : Value} {t : TypeId} (hz : y.heap[B]? = some (.cells #[z0, z1, z2, z3, z4] t (0, 0))) (hB : w.heap.size ≤ B) (hb : Below w.heap.size w y) (W : World)
    (hW : W = (((((y.setCell ⟨B, 0, none⟩ v0).setCell ⟨B, 1, none⟩ v1).setCell ⟨B, 2, none⟩ v2).setCell ⟨B, 3, none⟩ v3).setCell ⟨B, 4, none⟩ v4)) : W.heap[B]? = some (.cells #[v0, v1, v2, v3, v4] t (0, 0)) ∧ Below w.heap.size w W ∧ ∀ k, k ≠ B → W.heap[k]? = y.heap[k]? := by
  obtain ⟨y0, e0⟩ : ∃ x, (y.setCell ⟨B, 0, none⟩ v0) = x := ⟨_, rfl⟩
  have h0 : y0.heap[B]? = some (.cells #[v0, z1, z2, z3, z4] t (0, 0)) := by rw [← e0]; exact setCell_block hz
  have b0 : Below w.heap.size w y0 := by rw [← e0]; exact hb.setCell (p := ⟨B, 0, none⟩) hB v0
  have k0 : ∀ k, k ≠ B → y0.heap[k]? = y.heap[k]? := fun k hk => by rw [← e0, Below.heap_setCell _ _ _ k hk]
  obtain ⟨y1, e1⟩ : ∃ x, (y0.setCell ⟨B, 1, none⟩ v1) = x := ⟨_, rfl⟩
  have h1 : y1.heap[B]? = some (.cells #[v0, v1, z2, z3, z4] t (0, 0)) := by rw [← e1]; exact setCell_block h0
  have b1 : Below w.heap.size w y1 := by rw [← e1]; exact b0.setCell (p := ⟨B, 1, none⟩) hB v1
  have k1 : ∀ k, k ≠ B → y1.heap[k]? = y.heap[k]? := fun k hk => by rw [← e1, Below.heap_setCell _ _ _ k hk]; exact k0 k hk
  obtain ⟨y2, e2⟩ : ∃ x, (y1.setCell ⟨B, 2, none⟩ v2) = x := ⟨_, rfl⟩
  have h2 : y2.heap[B]? = some (.cells #[v0, v1, v2, z3, z4] t (0, 0)) := by rw [← e2]; exact setCell_block h1
  have b2 : Below w.heap.size w y2 := by rw [← e2]; exact b1.setCell (p := ⟨B, 2, none⟩) hB v2
  have k2 : ∀ k, k ≠ B → y2.heap[k]? = y.heap[k]? := fun k hk => by rw [← e2, Below.heap_setCell _ _ _ k hk]; exact k1 k hk
  obtain ⟨y3, e3⟩ : ∃ x, (y2.setCell ⟨B, 3, none⟩ v3) = x := ⟨_, rfl⟩
  have h3 : y3.heap[B]? = some (.cells #[v0, v1, v2, v3, z4] t (0, 0)) := by rw [← e3]; exact setCell_block h2
  have b3 : Below w.heap.size w y3 := by rw [← e3]; exact b2.setCell (p := ⟨B, 3, none⟩) hB v3
  have k3 : ∀ k, k ≠ B → y3.heap[k]? = y.heap[k]? := fun k hk => by rw [← e3, Below.heap_setCell _ _ _ k hk]; exact k2 k hk
  obtain ⟨y4, e4⟩ : ∃ x, (y3.setCell ⟨B, 4, none⟩ v4) = x := ⟨_, rfl⟩
  have h4 : y4.heap[B]? = some (.cells #[v0, v1, v2, v3, v4] t (0, 0)) := by rw [← e4]; exact setCell_block h3
  have b4 : Below w.heap.size w y4 := by rw [← e4]; exact b3.setCell (p := ⟨B, 4, none⟩) hB v4
  have k4 : ∀ k, k ≠ B → y4.heap[k]? = y.heap[k]? := fun k hk => by rw [← e4, Below.heap_setCell _ _ _ k hk]; exact k3 k hk
  rw [e0, e1, e2, e3, e4] at hW
  subst hW
  exact ⟨h4, b4, k4⟩
end Go.Proofs.YtgllokinadjiaaaGreatDoor
namespace Go.Proofs.YtgllokinadjiaaaGreatDoor.Ww
namespace Sum

def halves : List Nat := [0x00000000, 0x105ec76f, 0x20bd8ede, 0x30e349b1, 0x417b1dbc, 0x5125dad3, 0x61c69362, 0x7198540d,
  0x82f63b78, 0x92a8fc17, 0xa24bb5a6, 0xb21572c9, 0xc38d26c4, 0xd3d3e1ab, 0xe330a81a, 0xf36e6f75]
/-- four steps at once. -/
def half (s : Nat) : Nat := (s / 16) ^^^ halves.getD (s % 16) 0
def byte (s x : Nat) : Nat := half (half (s ^^^ x))
def run (s : Nat) (l : List Nat) : Nat := l.foldl byte s
/-- the sum of bytes. -/
def crc (l : List Nat) : Nat := 4294967295 ^^^ run 4294967295 l

theorem halves_lt (k : Nat) : halves.getD k 0 < 4294967296 := by
  by_cases h : k < 16
  · have : ∀ k, k < 16 → halves.getD k 0 < 4294967296 := by decide
    exact this k h
  · rw [List.getD_eq_getElem?_getD, List.getElem?_eq_none (by simp [halves]; omega)]; decide
theorem xor_lt {a b : Nat} (ha : a < 4294967296) (hb : b < 4294967296) : a ^^^ b < 4294967296 := Nat.xor_lt_two_pow (n := 32) ha hb
theorem half_lt {s : Nat} (hs : s < 4294967296) : half s < 4294967296 := xor_lt (by omega) (halves_lt _)
theorem byte_lt {s x : Nat} (hs : s < 4294967296) (hx : x < 256) : byte s x < 4294967296 := half_lt (half_lt (xor_lt hs (by omega)))
theorem run_lt (l : List Nat) : ∀ {s : Nat}, s < 4294967296 → (∀ x ∈ l, x < 256) → run s l < 4294967296 := by
  induction l with
  | nil => intro s hs _; exact hs
  | cons x l ih => intro s hs hx; exact ih (byte_lt hs (hx x (by simp))) (fun y hy => hx y (by simp [hy]))
theorem crc_lt {l : List Nat} (h : ∀ x ∈ l, x < 256) : crc l < 4294967296 := xor_lt (by decide) (run_lt l (by decide) h)

theorem xor_cancel {a b c : Nat} (h : a ^^^ c = b ^^^ c) : a = b := by
  have := congrArg (· ^^^ c) h
  simpa [Nat.xor_assoc] using this
theorem xor_cancel_left {a b c : Nat} (h : c ^^^ a = c ^^^ b) : a = b := by
  rw [Nat.xor_comm c a, Nat.xor_comm c b] at h; exact xor_cancel h

theorem half_inj {a b : Nat} (ha : a < 4294967296) (hb : b < 4294967296) (h : half a = half b) : a = b := by
  have top : ∀ x, x < 4294967296 → half x / 268435456 = halves.getD (x % 16) 0 / 268435456 := by
    intro x hx
    unfold half
    have e := Nat.xor_div_two_pow (a := x / 16) (b := halves.getD (x % 16) 0) (n := 28)
    have z : x / 16 / 268435456 = 0 := by omega
    simp only [show (2 : Nat) ^ 28 = 268435456 from rfl] at e
    rw [e, z, Nat.zero_xor]
  have t := (top a ha).symm.trans ((congrArg (· / 268435456) h).trans (top b hb))
  have dec : ∀ i, i < 16 → ∀ j, j < 16 → halves.getD i 0 / 268435456 = halves.getD j 0 / 268435456 → i = j := by decide
  have lo := dec _ (Nat.mod_lt a (by decide)) _ (Nat.mod_lt b (by decide)) t
  unfold half at h
  rw [lo] at h
  have hi := xor_cancel h
  omega

theorem byte_inj {a b x y : Nat} (ha : a < 4294967296) (hb : b < 4294967296) (hx : x < 256) (hy : y < 256) (h : byte a x = byte b y) : a ^^^ x = b ^^^ y :=
  half_inj (xor_lt ha (by omega)) (xor_lt hb (by omega)) (half_inj (half_lt (xor_lt ha (by omega))) (half_lt (xor_lt hb (by omega))) h)
theorem run_inj (l : List Nat) : ∀ {a b : Nat}, a < 4294967296 → b < 4294967296 → (∀ x ∈ l, x < 256) → run a l = run b l → a = b := by
  induction l with
  | nil => intro a b _ _ _ h; exact h
  | cons x l ih =>
    intro a b ha hb hx h
    have e := ih (byte_lt ha (hx x (by simp))) (byte_lt hb (hx x (by simp))) (fun y hy => hx y (by simp [hy])) h
    exact xor_cancel (byte_inj ha hb (hx x (by simp)) (hx x (by simp)) e)
theorem run_append (s : Nat) (l m : List Nat) : run s (l ++ m) = run (run s l) m := List.foldl_append
/-- a byte that is another one makes another sum. -/
theorem crc_turned {l m : List Nat} {x y : Nat} (hl : ∀ z ∈ l, z < 256) (hm : ∀ z ∈ m, z < 256) (hx : x < 256) (hy : y < 256) (h : crc (l ++ x :: m) = crc (l ++ y :: m)) : x = y := by
  have e := xor_cancel_left h
  rw [run_append, run_append] at e
  have s := run_lt l (s := 4294967295) (by decide) hl
  exact xor_cancel_left (byte_inj s s hx hy (run_inj m (byte_lt s hx) (byte_lt s hy) hm e))

/-- one step of the turned polynomial. -/
def bit (x : Nat) : Nat := if x % 2 = 1 then x / 2 ^^^ 0x82F63B78 else x / 2
theorem bit_xor (a b : Nat) : bit (a ^^^ b) = bit a ^^^ bit b := by
  have d := Nat.xor_div_two_pow (a := a) (b := b) (n := 1)
  have m := Nat.xor_mod_two_pow (a := a) (b := b) (n := 1)
  simp only [show (2 : Nat) ^ 1 = 2 from rfl] at d m
  unfold bit
  rw [m, d]
  rcases Nat.mod_two_eq_zero_or_one a with p | p <;> rcases Nat.mod_two_eq_zero_or_one b with q | q <;> rw [p, q]
  · rfl
  · simp [Nat.xor_assoc]
  · simp only [show (1 ^^^ 0 : Nat) = 1 from rfl]; simp only [if_true]; rw [if_neg (by decide), Nat.xor_assoc, Nat.xor_comm (b / 2), ← Nat.xor_assoc]
  · simp only [show (1 ^^^ 1 : Nat) = 0 from rfl, if_true]; rw [if_neg (by decide)]
    rw [Nat.xor_assoc, ← Nat.xor_assoc 2197175160, Nat.xor_comm 2197175160 (b / 2), Nat.xor_assoc (b / 2), Nat.xor_self, Nat.xor_zero]
theorem bit_even (q : Nat) : bit (2 * q) = q := by unfold bit; rw [if_neg (by omega)]; omega
theorem four_bits (s : Nat) : bit (bit (bit (bit s))) = half s := by
  have e : s = (2 * (2 * (2 * (2 * (s / 16))))) ^^^ (s % 16) := by
    have h : 2 * (2 * (2 * (2 * (s / 16)))) = 2 ^ 4 * (s / 16) := by omega
    have := Nat.two_pow_add_eq_or_of_lt (i := 4) (b := s % 16) (Nat.mod_lt _ (by decide)) (s / 16)
    have x : 2 ^ 4 * (s / 16) ^^^ s % 16 = 2 ^ 4 * (s / 16) + s % 16 := by
      rw [Nat.two_pow_add_eq_or_of_lt (i := 4) (Nat.mod_lt _ (by decide))]
      apply Nat.eq_of_testBit_eq
      intro i
      simp only [Nat.testBit_xor, Nat.testBit_or]
      by_cases hi : i < 4
      · rw [Nat.testBit_two_pow_mul]; simp [show ¬ 4 ≤ i by omega]
      · rw [show (16 : Nat) = 2 ^ 4 from rfl, Nat.testBit_mod_two_pow]; simp [hi]
    rw [h, x]; omega
  have low : ∀ r, r < 16 → bit (bit (bit (bit r))) = halves.getD r 0 := by decide
  conv => lhs; rw [e]
  rw [bit_xor, bit_xor, bit_xor, bit_xor, bit_even, bit_even, bit_even, bit_even, low _ (Nat.mod_lt _ (by decide))]
  rfl
theorem eight_bits (s x : Nat) : bit (bit (bit (bit (bit (bit (bit (bit (s ^^^ x)))))))) = byte s x := by
  rw [four_bits, four_bits]; rfl
theorem known : crc [49, 50, 51, 52, 53, 54, 55, 56, 57] = 3808858755 := by decide
end Sum
end Go.Proofs.YtgllokinadjiaaaGreatDoor.Ww
