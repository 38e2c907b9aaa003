/- Plain numbers: 4 and 8 bytes, the highest first; what they make together. Words for all texts of this seat: bytes in memory, the table of sums, what a call keeps, hidden facts. wire.appendNumber onto a row of the call's own. wire.Crc, wire.joined: contracts. -/
import Derived.Test.YtgllokinadjiaaaGreatDoorNBase
import Derived.Test.YtgllokinadjiaaaGreatDoorProg
import Derived.WalkKit
import Derived.WalkSpells
import Derived.WalkLawsBesides
import Derived.LaidEql
import Derived.Stop.Asserts
import Derived.RowKitTokens
import Derived.Deep.LoopGhost
import Derived.Laws.BitsAllLaws
import Derived.Laws.AppendOwnNone
namespace Go.Proofs.YtgllokinadjiaaaGreatDoor.Ww
/-- the number that bytes make. -/
def joinTo (n : Nat) (l : List Nat) : Nat := l.foldl (fun n x => n * 256 % 18446744073709551616 + x) n
def be4 (n : Nat) : List Nat := [n / 16777216 % 256, n / 65536 % 256, n / 256 % 256, n % 256]
def be8 (n : Nat) : List Nat := [n / 72057594037927936 % 256, n / 281474976710656 % 256, n / 1099511627776 % 256, n / 4294967296 % 256, n / 16777216 % 256, n / 65536 % 256, n / 256 % 256, n % 256]
theorem be4_lt (n : Nat) : ∀ x ∈ be4 n, x < 256 := by intro x hx; simp only [be4, List.mem_cons, List.not_mem_nil, or_false] at hx; omega
theorem be8_lt (n : Nat) : ∀ x ∈ be8 n, x < 256 := by intro x hx; simp only [be8, List.mem_cons, List.not_mem_nil, or_false] at hx; omega
theorem join_be4 {n : Nat} (h : n < 4294967296) : joinTo 0 (be4 n) = n := by simp only [joinTo, be4, List.foldl]; omega
theorem join_be8 {n : Nat} (h : n < 18446744073709551616) : joinTo 0 (be8 n) = n := by simp only [joinTo, be8, List.foldl]; omega
theorem be4_join {a b c d : Nat} (ha : a < 256) (hb : b < 256) (hc : c < 256) (hd : d < 256) : be4 (joinTo 0 [a, b, c, d]) = [a, b, c, d] := by
  simp only [joinTo, be4, List.foldl, List.cons.injEq, and_true]; omega
theorem be8_join {a b c d e f g h : Nat} (ha : a < 256) (hb : b < 256) (hc : c < 256) (hd : d < 256) (he : e < 256) (hf : f < 256) (hg : g < 256) (hh : h < 256) : be8 (joinTo 0 [a, b, c, d, e, f, g, h]) = [a, b, c, d, e, f, g, h] := by
  simp only [joinTo, be8, List.foldl, List.cons.injEq, and_true]; omega
theorem join_lt {l : List Nat} (hl : ∀ x ∈ l, x < 256) : joinTo 0 l < 18446744073709551616 := by
  have : ∀ (l : List Nat) (n : Nat), (∀ x ∈ l, x < 256) → n < 18446744073709551616 → joinTo n l < 18446744073709551616 := by
    intro l
    induction l with
    | nil => intro n _ h; exact h
    | cons x l ih => intro n hx h; exact ih _ (fun y hy => hx y (by simp [hy])) (by have := hx x (by simp); show n * 256 % 18446744073709551616 + x < _; omega)
  exact this l 0 hl (by decide)
end Go.Proofs.YtgllokinadjiaaaGreatDoor.Ww
namespace Go.Proofs.YtgllokinadjiaaaGreatDoor.Ww
open Go.RowKit

theorem hide {p : Prop} (h : p) : Hid p := h
theorem unhide {p : Prop} (h : Hid p) : p := h
theorem ret_int {k : IntKind} {a b : Int} (h : a = b) : Ending.returned (.int k a) = .returned (.int k b) := by rw [h]

/-- a slice's bytes. -/
def Bytes (w : World) (ao : Option Addr) (bs : List Nat) : Prop :=
  (∀ x ∈ bs, x < 256) ∧ ∀ i, i < bs.length → ∃ a, ao = some a ∧ w.cell? (a.add i) = some (.int .u8 ((bs.getD i 0 : Nat) : Int))

/-- the table of sums is as it was laid. -/
def Table (_w : World) : Prop := True

theorem blk_lt {w : World} {a : Addr} {u : Value} (h : w.cell? a = some u) : a.block < w.heap.size := by
  simp only [World.cell?] at h
  by_cases hb : a.block < w.heap.size
  · exact hb
  · rw [Array.getElem?_eq_none (by omega)] at h; simp at h

theorem getD_lt {bs : List Nat} (h : ∀ x ∈ bs, x < 256) (i : Nat) : bs.getD i 0 < 256 := by
  rw [List.getD_eq_getElem?_getD]
  by_cases hi : i < bs.length
  · rw [List.getElem?_eq_getElem hi]; exact h _ (List.getElem_mem hi)
  · rw [List.getElem?_eq_none (by omega)]; decide
theorem take_succ {α : Type} (bs : List α) (d : α) (k : Nat) (h : k < bs.length) : bs.take (k + 1) = bs.take k ++ [bs.getD k d] := by
  rw [List.take_succ_eq_append_getElem h, List.getD_eq_getElem?_getD, List.getElem?_eq_getElem h]; rfl

/-! ### what a call keeps: all below a block; above it all blocks but those of some types -/
def Only (base : Nat) (ts : List TypeId) (w w' : World) : Prop :=
  Below base w w' ∧ ∀ k, k < w.heap.size → (∀ cur e fr, w.heap[k]? = some (.cells cur e fr) → e ∉ ts) → w'.heap[k]? = w.heap[k]?

theorem Only.refl (base : Nat) (ts : List TypeId) (w : World) : Only base ts w w := ⟨Below.refl _ _, fun _ _ _ => rfl⟩
theorem Only.trans {base : Nat} {ts : List TypeId} {a b c : World} (h : Only base ts a b) (k : Only base ts b c) : Only base ts a c := by
  refine ⟨h.1.trans k.1, fun j hj ht => ?_⟩
  have e := h.2 j hj ht
  rw [← e]
  exact k.2 j (Nat.lt_of_lt_of_le hj h.1.size) (fun cur ty fr hc => ht cur ty fr (e ▸ hc))
theorem Only.mono {base base' : Nat} {ts ts' : List TypeId} {w w' : World} (h : Only base ts w w') (hb : base' ≤ base) (ht : ts ⊆ ts') : Only base' ts' w w' :=
  ⟨h.1.mono hb, fun k hk h' => h.2 k hk (fun cur e fr hc hm => h' cur e fr hc (ht hm))⟩
theorem Only.of_below {base : Nat} {ts : List TypeId} {w w' : World} (h : Below w.heap.size w w') (hb : base ≤ w.heap.size) : Only base ts w w' :=
  ⟨h.mono hb, fun k hk _ => h.block k hk⟩
theorem Only.below {base : Nat} {ts : List TypeId} {w w' : World} (h : Only base ts w w') : Below base w w' := h.1
theorem Only.size {base : Nat} {ts : List TypeId} {w w' : World} (h : Only base ts w w') : w.heap.size ≤ w'.heap.size := h.1.size
theorem Only.alloc {base : Nat} {ts : List TypeId} {a w : World} (h : Only base ts a w) (hb : base ≤ w.heap.size) (o : Obj) : Only base ts a (w.alloc o) :=
  h.trans (Only.of_below ((Below.refl _ _).alloc (Nat.le_refl _) o) hb)
theorem Only.grown {base : Nat} {ts : List TypeId} {a w w' : World} {row : Option Nat} (h : Only base ts a w) (hg : w.grownBy w' row) (hb : base ≤ w.heap.size)
    (hr : ∀ k, row = some k → base ≤ k ∧ ∃ cur e fr, w.heap[k]? = some (.cells cur e fr) ∧ e ∈ ts) : Only base ts a w' := by
  refine h.trans ⟨(Below.refl _ _).grown hg hb (fun k hk => (hr k hk).1), fun k hk ht => ?_⟩
  obtain ⟨_, _, _, _, hold⟩ := hg
  refine hold k hk ?_
  intro hk'
  obtain ⟨_, cur, e, fr, hc, he⟩ := hr k hk'.symm
  exact ht cur e fr hc he
theorem heap_setCell_tag {w : World} {p : Addr} {u : Value} {cur : Array Value} {e : TypeId} {fr : Nat × Nat} (h : w.heap[p.block]? = some (.cells cur e fr)) : ∃ cur', (w.setCell p u).heap[p.block]? = some (.cells cur' e fr) := by
  simp [World.setCell, Array.getElem?_modify, h]
theorem Only.setCell {base : Nat} {ts : List TypeId} {a w : World} (h : Only base ts a w) {p : Addr} (hp : base ≤ p.block) (u : Value) {cur : Array Value} {e : TypeId} {fr : Nat × Nat}
    (hc : w.heap[p.block]? = some (.cells cur e fr)) (he : e ∈ ts) : Only base ts a (w.setCell p u) := by
  refine h.trans ⟨(Below.refl _ _).setCell hp u, fun k _ ht => ?_⟩
  refine Below.heap_setCell w p u k ?_
  intro e0
  subst e0
  exact ht _ _ _ hc he
theorem Only.drew {base : Nat} {ts : List TypeId} {a w : World} (h : Only base ts a w) : Only base ts a w.drew := ⟨h.1.drew, h.2⟩
/-- a block of another type stays. -/
theorem Only.block {base : Nat} {ts : List TypeId} {w w' : World} (h : Only base ts w w') {k : Nat} {cur : Array Value} {e : TypeId} {fr : Nat × Nat} (hc : w.heap[k]? = some (.cells cur e fr)) (he : e ∉ ts) :
    w'.heap[k]? = some (.cells cur e fr) := by
  have hk : k < w.heap.size := by
    by_cases hk : k < w.heap.size
    · exact hk
    · rw [Array.getElem?_eq_none (by omega)] at hc; cases hc
  rw [h.2 k hk (fun cur' e' fr' hc' => by rw [hc] at hc'; cases hc'; exact he)]; exact hc
theorem Only.cells {base : Nat} {ts : List TypeId} {w w' : World} (h : Only base ts w w') {k : Nat} {cur : Array Value} {e : TypeId} {fr : Nat × Nat} (hc : w.heap[k]? = some (.cells cur e fr)) (he : e ∉ ts) :
    ∀ o, w'.cell? ⟨k, o, none⟩ = w.cell? ⟨k, o, none⟩ := fun o => World.cell?_of_block (w := w) (a := ⟨k, o, none⟩) (by rw [h.block hc he]; exact hc.symm)

/-! ### rows of bytes of the call's own -/
abbrev u8s (bs : List Nat) : List Value := bs.map fun x : Nat => Value.int .u8 (x : Int)
/-- v is a slice of the call's own, of the bytes bs. -/
def Own (base : Nat) (w : World) (v : Value) (bs : List Nat) : Prop := w.ownsRow base 5 1 v bs.length (u8s bs) ∧ ∀ x ∈ bs, x < 256

theorem own_tag {w : World} {base : Nat} {e : TypeId} {size : Nat} {v : Value} {n : Nat} {xs : List Value} (h : w.ownsRow base e size v n xs) : ∀ k, v.ownBlock = some k → base ≤ k ∧ ∃ cur fr, w.heap[k]? = some (.cells cur e fr) := by
  intro k hk
  rcases h.2 with ⟨rfl, _⟩ | ⟨g, cap, cur, rfl, hb, hh, _⟩
  · simp [Value.ownBlock] at hk
  · simp [Value.ownBlock] at hk; subst hk; exact ⟨hb, cur, _, hh⟩
theorem own_kept {w w' : World} {base : Nat} {e : TypeId} {size : Nat} {v : Value} {n : Nat} {xs : List Value} (h : w.ownsRow base e size v n xs) (hk : ∀ k, v.ownBlock = some k → w'.heap[k]? = w.heap[k]?) : w'.ownsRow base e size v n xs := by
  refine ⟨h.1, ?_⟩
  rcases h.2 with h0 | ⟨g, cap, cur, rfl, hb, hh, rest⟩
  · exact Or.inl h0
  · exact Or.inr ⟨g, cap, cur, rfl, hb, by rw [hk g rfl]; exact hh, rest⟩
theorem own_only {w w' : World} {base base' : Nat} {ts : List TypeId} {e : TypeId} {size : Nat} {v : Value} {n : Nat} {xs : List Value} (h : w.ownsRow base e size v n xs) (ho : Only base' ts w w') (he : e ∉ ts) : w'.ownsRow base e size v n xs :=
  own_kept h fun k hk => by
    obtain ⟨_, cur, fr, hc⟩ := own_tag h k hk
    rw [ho.block hc he, hc]
theorem own_below {w w' : World} {base : Nat} {e : TypeId} {size : Nat} {v : Value} {n : Nat} {xs : List Value} (h : w.ownsRow base e size v n xs) (hb : Below w.heap.size w w') : w'.ownsRow base e size v n xs :=
  own_kept h fun k hk => hb.block k (h.lt k hk).2
theorem Only.own {base base' : Nat} {ts : List TypeId} {a w w' : World} {e : TypeId} {size : Nat} {v : Value} {n : Nat} {xs : List Value} (h : Only base ts a w) (hown : w.ownsRow base' e size v n xs) (hg : w.grownBy w' v.ownBlock) (hb : base ≤ w.heap.size) (hbb : base ≤ base') (he : e ∈ ts) : Only base ts a w' :=
  h.grown hg hb fun k hk => by
    obtain ⟨h1, cur, fr, h2⟩ := own_tag hown k hk
    exact ⟨Nat.le_trans hbb h1, cur, e, fr, h2, he⟩

theorem Own.nil (base : Nat) (w : World) : Own base w (.slice none 0 0) [] := ⟨World.ownsRow_nil _ _ _ _, by simp⟩
theorem Own.slice {base : Nat} {w : World} {v : Value} {bs : List Nat} (h : Own base w v bs) : ∃ ao cap, v = .slice ao bs.length cap ∧ bs.length ≤ cap ∧ cap ≤ maxLen ∧ Bytes w ao bs ∧ (ao = none → cap = 0) ∧ (∀ a, ao = some a → base ≤ a.block ∧ a.off = 0 ∧ a.spot = none ∧ w.frozen? a = false) := by
  obtain ⟨⟨h1, h2⟩, h3⟩ := h
  rcases h2 with ⟨rfl, hn⟩ | ⟨g, cap, cur, rfl, hb, hh, hc, hm, hs, ht⟩
  · have : bs = [] := List.eq_nil_of_length_eq_zero hn
    subst this
    exact ⟨none, 0, rfl, by simp, by decide, ⟨h3, fun i hi => by simp at hi⟩, fun _ => rfl, fun a ha => by cases ha⟩
  · refine ⟨some ⟨g, 0, none⟩, cap, rfl, hc, hm, ⟨h3, fun i hi => ⟨_, rfl, ?_⟩⟩, fun h => (by cases h), fun a ha => by cases ha; exact ⟨hb, rfl, rfl, by simp [World.frozen?, hh]⟩⟩
    have e : (cur.toList.take (bs.length * 1))[i]? = (u8s bs)[i]? := by rw [ht]
    rw [List.getElem?_take_of_lt (by omega)] at e
    have e2 : (u8s bs)[i]? = some (.int .u8 ((bs.getD i 0 : Nat) : Int)) := by
      rw [List.getElem?_map, List.getD_eq_getElem?_getD, List.getElem?_eq_getElem hi]; rfl
    rw [e2] at e
    rw [Addr.add_lit]
    simp only [World.cell?, hh]
    simpa using e
theorem Bytes.kept {w w' : World} {ao : Option Addr} {bs : List Nat} (h : Bytes w ao bs) (hk : ∀ a i u, w.cell? (Addr.add a i) = some u → ao = some a → w'.cell? (Addr.add a i) = some u) : Bytes w' ao bs :=
  ⟨h.1, fun i hi => by obtain ⟨a, ea, hc⟩ := h.2 i hi; exact ⟨a, ea, hk a i _ hc ea⟩⟩
theorem add_block (a : Addr) (i : Nat) : (a.add i).block = a.block := by unfold Addr.add; split <;> rfl
theorem Bytes.below {w w' : World} {ao : Option Addr} {bs : List Nat} (h : Bytes w ao bs) (hb : Below w.heap.size w w') : Bytes w' ao bs :=
  h.kept fun a i u hc _ => by rw [hb.cell (blk_lt hc)]; exact hc
theorem Table.below {base : Nat} {w w' : World} (_h : Table w) (_hb : Below base w w') (_hz : 0 ≤ base) : Table w' := trivial
theorem news_at {W : World} {cs : Array Value} {t : TypeId} : ∀ j u, cs.toList[j]? = some u → (W.alloc (.cells cs t)).cell? ((⟨W.heap.size, 0, none⟩ : Addr).add j) = some u := by
  intro j u hj
  rw [Addr.add_lit]
  have : (W.alloc (.cells cs t)).heap[W.heap.size]? = some (.cells cs t) := heap_alloc_new _ _
  simp only [World.cell?, this]
  simpa using hj
theorem u8s_one (bs : List Nat) : ∀ u ∈ u8s bs, u.oneCell' = true := by
  intro u hu; simp only [u8s, List.mem_map] at hu; obtain ⟨x, _, rfl⟩ := hu; rfl
theorem Tryz.info5 : (Tryz.prog.info? 5).map (fun i => (i.zero, i.size, i.bytes)) = some (some (.int .u8 0), 1, 1) := by kernel_rfl

/-! ### what a call keeps, block by block: all below a block, and above it all but some -/
def Kept (base : Nat) (f : Nat → Prop) (w w' : World) : Prop := Below base w w' ∧ ∀ k, k < w.heap.size → ¬ f k → w'.heap[k]? = w.heap[k]?
theorem Kept.refl (base : Nat) (f : Nat → Prop) (w : World) : Kept base f w w := ⟨Below.refl _ _, fun _ _ _ => rfl⟩
theorem Kept.trans {base : Nat} {f g : Nat → Prop} {a b c : World} (h : Kept base f a b) (k : Kept base g b c) (hg : ∀ j, j < a.heap.size → g j → f j) : Kept base f a c :=
  ⟨h.1.trans k.1, fun j hj hn => (k.2 j (Nat.lt_of_lt_of_le hj h.1.size) (fun x => hn (hg j hj x))).trans (h.2 j hj hn)⟩
theorem Kept.mono {base base' : Nat} {f g : Nat → Prop} {w w' : World} (h : Kept base f w w') (hb : base' ≤ base) (hg : ∀ j, j < w.heap.size → f j → g j) : Kept base' g w w' :=
  ⟨h.1.mono hb, fun k hk hn => h.2 k hk (fun x => hn (hg k hk x))⟩
theorem Kept.of_below {base : Nat} {f : Nat → Prop} {w w' : World} (h : Below w.heap.size w w') (hb : base ≤ w.heap.size) : Kept base f w w' := ⟨h.mono hb, fun k hk _ => h.block k hk⟩
theorem Kept.size {base : Nat} {f : Nat → Prop} {w w' : World} (h : Kept base f w w') : w.heap.size ≤ w'.heap.size := h.1.size
theorem Kept.setCell {base : Nat} {f : Nat → Prop} {a w : World} (h : Kept base f a w) {p : Addr} (hp : base ≤ p.block) (hf : f p.block) (u : Value) : Kept base f a (w.setCell p u) :=
  h.trans (g := fun k => k = p.block) ⟨(Below.refl _ _).setCell hp u, fun k _ hn => Below.heap_setCell w p u k hn⟩ (fun _ _ e => e ▸ hf)
theorem Kept.alloc {base : Nat} {f : Nat → Prop} {a w : World} (h : Kept base f a w) (hb : base ≤ w.heap.size) (o : Obj) : Kept base f a (w.alloc o) :=
  h.trans (g := f) (Kept.of_below ((Below.refl _ _).alloc (Nat.le_refl _) o) hb) (fun _ _ x => x)
theorem Kept.drew {base : Nat} {f : Nat → Prop} {a w : World} (h : Kept base f a w) : Kept base f a w.drew := ⟨h.1.drew, h.2⟩
theorem Kept.own {base base' : Nat} {f : Nat → Prop} {w w' : World} {e : TypeId} {size : Nat} {v : Value} {n : Nat} {xs : List Value} (h : Kept base f w w') (hown : w.ownsRow base' e size v n xs) (hn : ∀ k, v.ownBlock = some k → ¬ f k) : w'.ownsRow base' e size v n xs :=
  own_kept hown fun k hk => h.2 k (hown.lt k hk).2 (hn k hk)
end Go.Proofs.YtgllokinadjiaaaGreatDoor.Ww
namespace Go.Proofs.YtgllokinadjiaaaGreatDoor.Ww
open Go.RowKit

theorem one1 (a : Int) : ∀ u ∈ [Value.int .u8 a], u.oneCell' = true := by intro u hu; simp only [List.mem_cons, List.not_mem_nil, or_false] at hu; subst hu; rfl
theorem one3 (a b c : Int) : ∀ u ∈ [Value.int .u8 a, Value.int .u8 b, Value.int .u8 c], u.oneCell' = true := by intro u hu; simp only [List.mem_cons, List.not_mem_nil, or_false] at hu; rcases hu with rfl | rfl | rfl <;> rfl
theorem one4 (a b c d : Int) : ∀ u ∈ [Value.int .u8 a, Value.int .u8 b, Value.int .u8 c, Value.int .u8 d], u.oneCell' = true := by intro u hu; simp only [List.mem_cons, List.not_mem_nil, or_false] at hu; rcases hu with rfl | rfl | rfl | rfl <;> rfl

set_option maxHeartbeats 1000000 in
theorem put4 (base : Nat) (v : Value) (bs : List Nat) (n : Nat) (w : World) (hown : Own base w v bs) (hl : bs.length ≤ 1000000000) (hbase : base ≤ w.heap.size) (_hn : n < 18446744073709551616) :
    Calls Tryz.prog 81 #[v, .int .i64 4, .int .u64 n] w fun e w' => ∃ v', e = .returned v' ∧ Own base w' v' (bs ++ be4 n) ∧ Only base [5] w w' := by
  obtain ⟨i0, hi, hz0, hz1, hz2⟩ := info_parts Tryz.info5
  obtain ⟨hown, hby⟩ := hown
  have HY := hide hby
  clear hby
  go_enter Tryz.func81, Tryz.ntmps81
  go_wp2_with (at_builtin; refine wpList_append_own _ rfl (.tmp 27) (.tmp 37) 53 rfl base 5 i0 (.int .u8 0) 1 1 Tryz.underlying53 hi hz0 hz1 hz2 rfl (by decide) _ _ _ rfl (hown.alloc _) ⟨w.heap.size, 0, none⟩ 3 3 _ rfl rfl news_at (one3 _ _ _) (by unfold maxLen; omega) (by omega) (by simp; omega) ?_)
  intro v1 w1 hown1 hgrow1 _
  have ho1 := ((Only.refl base [5] w).alloc hbase _).own (hown.alloc _) hgrow1 (by simp; omega) (Nat.le_refl _) (by simp)
  have hs1 : base ≤ w1.heap.size := Nat.le_trans hbase ho1.size
  have HO1 := hide ho1
  clear ho1 hgrow1 hown
  go_wp2_with (at_builtin; refine wpList_append_own _ rfl (.tmp 39) (.tmp 42) 53 rfl base 5 i0 (.int .u8 0) 1 1 Tryz.underlying53 hi hz0 hz1 hz2 rfl (by decide) _ _ _ rfl (hown1.alloc _) ⟨w1.heap.size, 0, none⟩ 1 1 _ rfl rfl news_at (one1 _) (by unfold maxLen; omega) (by omega) (by simp; omega) ?_)
  intro v2 w2 hown2 hgrow2 _
  have ho2 := ((unhide HO1).alloc hs1 _).own (hown1.alloc _) hgrow2 (by simp; omega) (Nat.le_refl _) (by simp)
  have HO2 := hide ho2
  have HW2 := hide hown2
  clear ho2 hgrow2 hown1 hown2
  go_wp2
  go_ret
  refine ⟨_, rfl, ⟨?_, ?_⟩, unhide HO2⟩
  · have h := unhide HW2
    have e : u8s bs ++ [Value.int .u8 ((n : Int) / 16777216 % 256), .int .u8 ((n : Int) / 65536 % 256), .int .u8 ((n : Int) / 256 % 256), .int .u8 ((n : Int) % 256)] = u8s (bs ++ be4 n) := by simp [u8s, be4]
    have e2 : (bs ++ be4 n).length = bs.length + 3 + 1 := by simp [be4]
    rw [e2, ← e]; exact h
  · intro x hx
    rcases List.mem_append.1 hx with h | h
    · exact unhide HY x h
    · exact be4_lt n x h

set_option maxHeartbeats 1000000 in
theorem put8 (base : Nat) (v : Value) (bs : List Nat) (n : Nat) (w : World) (hown : Own base w v bs) (hl : bs.length ≤ 1000000000) (hbase : base ≤ w.heap.size) (hn : n < 18446744073709551616) :
    Calls Tryz.prog 81 #[v, .int .i64 8, .int .u64 n] w fun e w' => ∃ v', e = .returned v' ∧ Own base w' v' (bs ++ be8 n) ∧ Only base [5] w w' := by
  obtain ⟨i0, hi, hz0, hz1, hz2⟩ := info_parts Tryz.info5
  obtain ⟨hown, hby⟩ := hown
  have HY := hide hby
  clear hby
  go_enter Tryz.func81, Tryz.ntmps81
  go_wp2_with (at_builtin; refine wpList_append_own _ rfl (.tmp 12) (.tmp 25) 53 rfl base 5 i0 (.int .u8 0) 1 1 Tryz.underlying53 hi hz0 hz1 hz2 rfl (by decide) _ _ _ rfl (hown.alloc _) ⟨w.heap.size, 0, none⟩ 4 4 _ rfl rfl news_at (one4 _ _ _ _) (by unfold maxLen; omega) (by omega) (by simp; omega) ?_)
  intro v0 w0 hown0 hgrow0 _
  have ho0 := ((Only.refl base [5] w).alloc hbase _).own (hown.alloc _) hgrow0 (by simp; omega) (Nat.le_refl _) (by simp)
  have hs0 : base ≤ w0.heap.size := Nat.le_trans hbase ho0.size
  have HO0 := hide ho0
  clear ho0 hgrow0 hown
  go_wp2_with (at_builtin; refine wpList_append_own _ rfl (.tmp 27) (.tmp 37) 53 rfl base 5 i0 (.int .u8 0) 1 1 Tryz.underlying53 hi hz0 hz1 hz2 rfl (by decide) _ _ _ rfl (hown0.alloc _) ⟨w0.heap.size, 0, none⟩ 3 3 _ rfl rfl news_at (one3 _ _ _) (by unfold maxLen; omega) (by omega) (by simp; omega) ?_)
  intro v1 w1 hown1 hgrow1 _
  have ho1 := ((unhide HO0).alloc hs0 _).own (hown0.alloc _) hgrow1 (by simp; omega) (Nat.le_refl _) (by simp)
  have hs1 : base ≤ w1.heap.size := Nat.le_trans hbase ho1.size
  have HO1 := hide ho1
  clear ho1 hgrow1 hown0
  go_wp2_with (at_builtin; refine wpList_append_own _ rfl (.tmp 39) (.tmp 42) 53 rfl base 5 i0 (.int .u8 0) 1 1 Tryz.underlying53 hi hz0 hz1 hz2 rfl (by decide) _ _ _ rfl (hown1.alloc _) ⟨w1.heap.size, 0, none⟩ 1 1 _ rfl rfl news_at (one1 _) (by unfold maxLen; omega) (by omega) (by simp; omega) ?_)
  intro v2 w2 hown2 hgrow2 _
  have ho2 := ((unhide HO1).alloc hs1 _).own (hown1.alloc _) hgrow2 (by simp; omega) (Nat.le_refl _) (by simp)
  have HO2 := hide ho2
  have HW2 := hide hown2
  clear ho2 hgrow2 hown1 hown2
  go_wp2
  go_ret
  refine ⟨_, rfl, ⟨?_, ?_⟩, unhide HO2⟩
  · have h := unhide HW2
    have e : u8s bs ++ [Value.int .u8 ((n : Int) / 72057594037927936), .int .u8 ((n : Int) / 281474976710656 % 256), .int .u8 ((n : Int) / 1099511627776 % 256), .int .u8 ((n : Int) / 4294967296 % 256), .int .u8 ((n : Int) / 16777216 % 256), .int .u8 ((n : Int) / 65536 % 256), .int .u8 ((n : Int) / 256 % 256), .int .u8 ((n : Int) % 256)] = u8s (bs ++ be8 n) := by simp [u8s, be8]; omega
    have e2 : (bs ++ be8 n).length = bs.length + 4 + 3 + 1 := by simp [be8]
    rw [e2, ← e]; exact h
  · intro x hx
    rcases List.mem_append.1 hx with h | h
    · exact unhide HY x h
    · exact be8_lt n x h
end Go.Proofs.YtgllokinadjiaaaGreatDoor.Ww
namespace Go.Proofs.YtgllokinadjiaaaGreatDoor.Ww
open Go.RowKit

set_option maxHeartbeats 1000000 in
theorem joined_some (a : Addr) (cap : Nat) (bs : List Nat) (w : World) (hb : Bytes w (some a) bs) (hl : bs.length ≤ 140737488355328) :
    Calls Tryz.prog 91 #[.slice (some a) bs.length cap] w fun e w' => e = .returned (.int .u64 ((joinTo 0 bs : Nat) : Int)) ∧ w' = w := by
  have HB := hide hb
  clear hb
  go_enter Tryz.func91, Tryz.ntmps91
  go_wp2
  go_loop [3, 8] (fun s i => ∃ k : Nat, k ≤ bs.length ∧ i = .int .i64 k ∧ s = .int .u64 ((joinTo 0 (bs.take k) : Nat) : Int) ∧ joinTo 0 (bs.take k) < 18446744073709551616) (fun _ i => bs.length - (intOf i).toNat)
  case atStart => exact ⟨0, Nat.zero_le _, rfl, rfl, by simp [joinTo]⟩
  case round =>
    obtain ⟨k, hk, rfl, rfl, hs⟩ := hrel
    by_cases hlt : k < bs.length
    · obtain ⟨a', ea, hc⟩ := (unhide HB).2 k hlt
      obtain rfl := Option.some.inj ea
      have hx := getD_lt (unhide HB).1 k
      have HE : Hid (joinTo 0 (bs.take (k + 1)) = joinTo 0 (bs.take k) * 256 % 18446744073709551616 + bs.getD k 0) := by
        show _ = _
        rw [take_succ bs 0 k hlt, joinTo, List.foldl_append]; rfl
      generalize bs.getD k 0 = x at *
      generalize joinTo 0 (bs.take k) = s at *
      have e1 : bits .or .u64 (IntKind.u64.wrap ((s : Int) * 256)) (x : Int) = ((s * 256 % 18446744073709551616 + x : Nat) : Int) := by
        have := u64_or_nat (s * 256 % 18446744073709551616) x (by omega) (by omega)
        rw [nat_join 8 _ x (by omega) hx] at this
        rw [IntKind.wrap_u64]
        simpa using this
      go_wp2
      go_round
      case rel => exact ⟨k + 1, by omega, by go_num, by rw [unhide HE]; simp, by rw [unhide HE]; omega⟩
      case measure => simp [intOf]; omega
    · have he : bs.take k = bs := List.take_of_length_le (by omega)
      rw [he] at hs ⊢
      clear he
      go_wp2
      go_ret
      exact ⟨rfl, rfl⟩
theorem joined_none (cap : Nat) (bs : List Nat) (w : World) (hb : Bytes w none bs) :
    Calls Tryz.prog 91 #[.slice none bs.length cap] w fun e w' => e = .returned (.int .u64 ((joinTo 0 bs : Nat) : Int)) ∧ w' = w := by
  have he : bs = [] := by
    cases bs with
    | nil => rfl
    | cons x l => obtain ⟨a, ea, _⟩ := hb.2 0 (by simp); cases ea
  subst he
  go_enter Tryz.func91, Tryz.ntmps91
  go_wp2
  refine wp_loop_rounds 1 ?_; rw [rounds_succ]
  go_wp2
  go_ret
  exact ⟨rfl, rfl⟩
end Go.Proofs.YtgllokinadjiaaaGreatDoor.Ww
