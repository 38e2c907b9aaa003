/- Words for all texts of this seat: what a call keeps, rows of the call's own, hidden facts. -/
import Derived.Test.YtndpkpkijfplaaaProg
import Derived.WalkKit
import Derived.WalkSpells
import Derived.WalkLawsBesides
import Derived.LaidEql
import Derived.Stop.Asserts
import Derived.RowKitTokens
import Derived.Deep.LoopGhost
import Derived.Laws.BitsAllLaws
import Derived.Laws.AppendOwnNone
namespace Go.Proofs.Ytndpkpkijfplaaa
open Go.RowKit

theorem hide {p : Prop} (h : p) : Hid p := h
theorem unhide {p : Prop} (h : Hid p) : p := h
theorem ret_int {k : IntKind} {a b : Int} (h : a = b) : Ending.returned (.int k a) = .returned (.int k b) := by rw [h]

theorem blk_lt {w : World} {a : Addr} {u : Value} (h : w.cell? a = some u) : a.block < w.heap.size := by
  simp only [World.cell?] at h
  by_cases hb : a.block < w.heap.size
  · exact hb
  · rw [Array.getElem?_eq_none (by omega)] at h; simp at h

theorem take_succ {α : Type} (bs : List α) (d : α) (k : Nat) (h : k < bs.length) : bs.take (k + 1) = bs.take k ++ [bs.getD k d] := by
  rw [List.take_succ_eq_append_getElem h, List.getD_eq_getElem?_getD, List.getElem?_eq_getElem h]; rfl

/-! ### what a call keeps: all below a block; above it all blocks but those of some types -/
def Only (base : Nat) (ts : List TypeId) (w w' : World) : Prop :=
  Below base w w' ∧ ∀ k, k < w.heap.size → (∀ cur e fr, w.heap[k]? = some (.cells cur e fr) → e ∉ ts) → w'.heap[k]? = w.heap[k]?

theorem Only.refl (base : Nat) (ts : List TypeId) (w : World) : Only base ts w w := ⟨Below.refl _ _, fun _ _ _ => rfl⟩
theorem Only.trans {base : Nat} {ts : List TypeId} {a b c : World} (h : Only base ts a b) (k : Only base ts b c) : Only base ts a c := by
  refine ⟨h.1.trans k.1, fun j hj ht => ?_⟩
  have e := h.2 j hj ht
  rw [← e]
  exact k.2 j (Nat.lt_of_lt_of_le hj h.1.size) (fun cur ty fr hc => ht cur ty fr (e ▸ hc))
theorem Only.mono {base base' : Nat} {ts ts' : List TypeId} {w w' : World} (h : Only base ts w w') (hb : base' ≤ base) (ht : ts ⊆ ts') : Only base' ts' w w' :=
  ⟨h.1.mono hb, fun k hk h' => h.2 k hk (fun cur e fr hc hm => h' cur e fr hc (ht hm))⟩
theorem Only.of_below {base : Nat} {ts : List TypeId} {w w' : World} (h : Below w.heap.size w w') (hb : base ≤ w.heap.size) : Only base ts w w' :=
  ⟨h.mono hb, fun k hk _ => h.block k hk⟩
theorem Only.below {base : Nat} {ts : List TypeId} {w w' : World} (h : Only base ts w w') : Below base w w' := h.1
theorem Only.size {base : Nat} {ts : List TypeId} {w w' : World} (h : Only base ts w w') : w.heap.size ≤ w'.heap.size := h.1.size
theorem Only.alloc {base : Nat} {ts : List TypeId} {a w : World} (h : Only base ts a w) (hb : base ≤ w.heap.size) (o : Obj) : Only base ts a (w.alloc o) :=
  h.trans (Only.of_below ((Below.refl _ _).alloc (Nat.le_refl _) o) hb)
theorem Only.grown {base : Nat} {ts : List TypeId} {a w w' : World} {row : Option Nat} (h : Only base ts a w) (hg : w.grownBy w' row) (hb : base ≤ w.heap.size)
    (hr : ∀ k, row = some k → base ≤ k ∧ ∃ cur e fr, w.heap[k]? = some (.cells cur e fr) ∧ e ∈ ts) : Only base ts a w' := by
  refine h.trans ⟨(Below.refl _ _).grown hg hb (fun k hk => (hr k hk).1), fun k hk ht => ?_⟩
  obtain ⟨_, _, _, _, hold⟩ := hg
  refine hold k hk ?_
  intro hk'
  obtain ⟨_, cur, e, fr, hc, he⟩ := hr k hk'.symm
  exact ht cur e fr hc he
theorem heap_setCell_tag {w : World} {p : Addr} {u : Value} {cur : Array Value} {e : TypeId} {fr : Nat × Nat} (h : w.heap[p.block]? = some (.cells cur e fr)) : ∃ cur', (w.setCell p u).heap[p.block]? = some (.cells cur' e fr) := by
  simp [World.setCell, Array.getElem?_modify, h]
theorem Only.setCell {base : Nat} {ts : List TypeId} {a w : World} (h : Only base ts a w) {p : Addr} (hp : base ≤ p.block) (u : Value) {cur : Array Value} {e : TypeId} {fr : Nat × Nat}
    (hc : w.heap[p.block]? = some (.cells cur e fr)) (he : e ∈ ts) : Only base ts a (w.setCell p u) := by
  refine h.trans ⟨(Below.refl _ _).setCell hp u, fun k _ ht => ?_⟩
  refine Below.heap_setCell w p u k ?_
  intro e0
  subst e0
  exact ht _ _ _ hc he
theorem Only.drew {base : Nat} {ts : List TypeId} {a w : World} (h : Only base ts a w) : Only base ts a w.drew := ⟨h.1.drew, h.2⟩
/-- a block of another type stays. -/
theorem Only.block {base : Nat} {ts : List TypeId} {w w' : World} (h : Only base ts w w') {k : Nat} {cur : Array Value} {e : TypeId} {fr : Nat × Nat} (hc : w.heap[k]? = some (.cells cur e fr)) (he : e ∉ ts) :
    w'.heap[k]? = some (.cells cur e fr) := by
  have hk : k < w.heap.size := by
    by_cases hk : k < w.heap.size
    · exact hk
    · rw [Array.getElem?_eq_none (by omega)] at hc; cases hc
  rw [h.2 k hk (fun cur' e' fr' hc' => by rw [hc] at hc'; cases hc'; exact he)]; exact hc
theorem Only.cells {base : Nat} {ts : List TypeId} {w w' : World} (h : Only base ts w w') {k : Nat} {cur : Array Value} {e : TypeId} {fr : Nat × Nat} (hc : w.heap[k]? = some (.cells cur e fr)) (he : e ∉ ts) :
    ∀ o, w'.cell? ⟨k, o, none⟩ = w.cell? ⟨k, o, none⟩ := fun o => World.cell?_of_block (w := w) (a := ⟨k, o, none⟩) (by rw [h.block hc he]; exact hc.symm)

/-! ### rows of bytes of the call's own -/
theorem own_tag {w : World} {base : Nat} {e : TypeId} {size : Nat} {v : Value} {n : Nat} {xs : List Value} (h : w.ownsRow base e size v n xs) : ∀ k, v.ownBlock = some k → base ≤ k ∧ ∃ cur fr, w.heap[k]? = some (.cells cur e fr) := by
  intro k hk
  rcases h.2 with ⟨rfl, _⟩ | ⟨g, cap, cur, rfl, hb, hh, _⟩
  · simp [Value.ownBlock] at hk
  · simp [Value.ownBlock] at hk; subst hk; exact ⟨hb, cur, _, hh⟩
theorem own_kept {w w' : World} {base : Nat} {e : TypeId} {size : Nat} {v : Value} {n : Nat} {xs : List Value} (h : w.ownsRow base e size v n xs) (hk : ∀ k, v.ownBlock = some k → w'.heap[k]? = w.heap[k]?) : w'.ownsRow base e size v n xs := by
  refine ⟨h.1, ?_⟩
  rcases h.2 with h0 | ⟨g, cap, cur, rfl, hb, hh, rest⟩
  · exact Or.inl h0
  · exact Or.inr ⟨g, cap, cur, rfl, hb, by rw [hk g rfl]; exact hh, rest⟩
theorem own_only {w w' : World} {base base' : Nat} {ts : List TypeId} {e : TypeId} {size : Nat} {v : Value} {n : Nat} {xs : List Value} (h : w.ownsRow base e size v n xs) (ho : Only base' ts w w') (he : e ∉ ts) : w'.ownsRow base e size v n xs :=
  own_kept h fun k hk => by
    obtain ⟨_, cur, fr, hc⟩ := own_tag h k hk
    rw [ho.block hc he, hc]
theorem own_below {w w' : World} {base : Nat} {e : TypeId} {size : Nat} {v : Value} {n : Nat} {xs : List Value} (h : w.ownsRow base e size v n xs) (hb : Below w.heap.size w w') : w'.ownsRow base e size v n xs :=
  own_kept h fun k hk => hb.block k (h.lt k hk).2
theorem Only.own {base base' : Nat} {ts : List TypeId} {a w w' : World} {e : TypeId} {size : Nat} {v : Value} {n : Nat} {xs : List Value} (h : Only base ts a w) (hown : w.ownsRow base' e size v n xs) (hg : w.grownBy w' v.ownBlock) (hb : base ≤ w.heap.size) (hbb : base ≤ base') (he : e ∈ ts) : Only base ts a w' :=
  h.grown hg hb fun k hk => by
    obtain ⟨h1, cur, fr, h2⟩ := own_tag hown k hk
    exact ⟨Nat.le_trans hbb h1, cur, e, fr, h2, he⟩

theorem add_block (a : Addr) (i : Nat) : (a.add i).block = a.block := by unfold Addr.add; split <;> rfl
theorem news_at {W : World} {cs : Array Value} {t : TypeId} : ∀ j u, cs.toList[j]? = some u → (W.alloc (.cells cs t)).cell? ((⟨W.heap.size, 0, none⟩ : Addr).add j) = some u := by
  intro j u hj
  rw [Addr.add_lit]
  have : (W.alloc (.cells cs t)).heap[W.heap.size]? = some (.cells cs t) := heap_alloc_new _ _
  simp only [World.cell?, this]
  simpa using hj
/-! ### what a call keeps, block by block: all below a block, and above it all but some -/
def Kept (base : Nat) (f : Nat → Prop) (w w' : World) : Prop := Below base w w' ∧ ∀ k, k < w.heap.size → ¬ f k → w'.heap[k]? = w.heap[k]?
theorem Kept.refl (base : Nat) (f : Nat → Prop) (w : World) : Kept base f w w := ⟨Below.refl _ _, fun _ _ _ => rfl⟩
theorem Kept.trans {base : Nat} {f g : Nat → Prop} {a b c : World} (h : Kept base f a b) (k : Kept base g b c) (hg : ∀ j, j < a.heap.size → g j → f j) : Kept base f a c :=
  ⟨h.1.trans k.1, fun j hj hn => (k.2 j (Nat.lt_of_lt_of_le hj h.1.size) (fun x => hn (hg j hj x))).trans (h.2 j hj hn)⟩
theorem Kept.mono {base base' : Nat} {f g : Nat → Prop} {w w' : World} (h : Kept base f w w') (hb : base' ≤ base) (hg : ∀ j, j < w.heap.size → f j → g j) : Kept base' g w w' :=
  ⟨h.1.mono hb, fun k hk hn => h.2 k hk (fun x => hn (hg k hk x))⟩
theorem Kept.of_below {base : Nat} {f : Nat → Prop} {w w' : World} (h : Below w.heap.size w w') (hb : base ≤ w.heap.size) : Kept base f w w' := ⟨h.mono hb, fun k hk _ => h.block k hk⟩
theorem Kept.size {base : Nat} {f : Nat → Prop} {w w' : World} (h : Kept base f w w') : w.heap.size ≤ w'.heap.size := h.1.size
theorem Kept.setCell {base : Nat} {f : Nat → Prop} {a w : World} (h : Kept base f a w) {p : Addr} (hp : base ≤ p.block) (hf : f p.block) (u : Value) : Kept base f a (w.setCell p u) :=
  h.trans (g := fun k => k = p.block) ⟨(Below.refl _ _).setCell hp u, fun k _ hn => Below.heap_setCell w p u k hn⟩ (fun _ _ e => e ▸ hf)
theorem Kept.alloc {base : Nat} {f : Nat → Prop} {a w : World} (h : Kept base f a w) (hb : base ≤ w.heap.size) (o : Obj) : Kept base f a (w.alloc o) :=
  h.trans (g := f) (Kept.of_below ((Below.refl _ _).alloc (Nat.le_refl _) o) hb) (fun _ _ x => x)
theorem Kept.drew {base : Nat} {f : Nat → Prop} {a w : World} (h : Kept base f a w) : Kept base f a w.drew := ⟨h.1.drew, h.2⟩
theorem Kept.own {base base' : Nat} {f : Nat → Prop} {w w' : World} {e : TypeId} {size : Nat} {v : Value} {n : Nat} {xs : List Value} (h : Kept base f w w') (hown : w.ownsRow base' e size v n xs) (hn : ∀ k, v.ownBlock = some k → ¬ f k) : w'.ownsRow base' e size v n xs :=
  own_kept hown fun k hk => h.2 k (hown.lt k hk).2 (hn k hk)
end Go.Proofs.Ytndpkpkijfplaaa
