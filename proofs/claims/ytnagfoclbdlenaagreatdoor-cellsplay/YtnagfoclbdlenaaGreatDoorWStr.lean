/- What string makes of bytes; a tape's calls where nothing goes wrong; append onto a row of the call's own; rows that lie apart from a tape. -/
import Derived.Test.YtnagfoclbdlenaaGreatDoorTCrash
import Derived.Laws.BytesArg
import Derived.Lib.SlBytesConst
import Derived.BigQuiet
import Derived.Deep.RegionHeld
namespace Go.Proofs.YtnagfoclbdlenaaGreatDoor
open Go.RowKit

/-- bytes as a string. -/
def str (bs : List Nat) : ByteArray := strOfNums (bs.map Int.ofNat)
theorem conv_str {w : World} {ao : Option Addr} {n cap : Nat} {bs : List Nat} (hb : Bytes w ao bs) (hn : bs.length = n) :
    (convert 38 9 (.slice ao n cap)).run Tryz.prog w = .ok (.string (str bs)) w := by
  subst hn
  cases ao with
  | none =>
    obtain rfl := hb.none_nil
    exact run_convert_bytes_nil w 38 5 Tryz.underlying38 Tryz.underlying5 _ _ 9 Tryz.underlying9
  | some a =>
    have hl : (loadCells a bs.length).run Tryz.prog w = .ok ((bs.map Int.ofNat).map (Value.int .u8)).toArray w := by
      have := run_loadCells_list (P := Tryz.prog) w a ((bs.map Int.ofNat).map (Value.int .u8)) (fun j v hj => hb.news j v (by simpa [u8s] using hj))
      simpa using this
    rw [run_convert_bytes_string w 38 9 5 _ _ cap Tryz.underlying38 Tryz.underlying5 Tryz.underlying9, run_bytesToString w _ _ cap (bs.map Int.ofNat) hl, foldl_push_bytes]
    simp [str, strOfNums, ByteArray.empty, ByteArray.emptyWithCapacity]
    rfl
theorem bytes_new (w : World) (bs : List Nat) (h : ∀ x ∈ bs, x < 256) (t : TypeId) (fr : Nat × Nat) : Bytes (w.alloc (.cells (u8s bs).toArray t fr)) (some ⟨w.heap.size, 0, none⟩) bs := by
  refine ⟨h, fun i hi => ⟨_, rfl, ?_⟩⟩
  rw [Addr.add_lit]
  have e : (w.alloc (.cells (u8s bs).toArray t fr)).heap[w.heap.size]? = some (.cells (u8s bs).toArray t fr) := heap_alloc_new _ _
  simp only [World.cell?, e]
  simp [u8s, List.getD_eq_getElem?_getD, List.getElem?_eq_getElem hi]

theorem crash_synced (s : St) (pick : Int) (h : s.syn = s.bs.length) : s.kept pick = 0 ∧ s.crash pick = { s with left := 0, dead := false } := by
  have e : s.kept pick = 0 := by
    unfold St.kept
    rw [h, show ((s.bs.length : Int) - s.bs.length + 1) = 1 by omega, Int.emod_one]; rfl
  refine ⟨e, ?_⟩
  unfold St.crash
  rw [e, Nat.add_zero, h, List.take_length]
theorem append_ok (s : St) (b : List Nat) (h1 : s.dead = false) (h2 : s.bs.length + b.length ≤ s.room) (h3 : s.left ≤ 0) : s.append b = (0, { s with bs := s.bs ++ b, ops := s.ops + 1 }) := by
  have hb : s.begin (s.bs.length + b.length) = (0, { s with ops := s.ops + 1 }) := by
    unfold St.begin
    rw [if_neg (by simp [h1]), if_neg (by omega), if_neg (by omega), if_neg (by omega)]
  simp only [St.append, hb]; rfl
theorem sync_ok (s : St) (h1 : s.dead = false) (h2 : s.bs.length ≤ s.room) (h3 : s.left ≤ 0) : s.sync = (0, { s with syn := s.bs.length, ops := s.ops + 1 }) := by
  have hb : s.begin s.bs.length = (0, { s with ops := s.ops + 1 }) := by
    unfold St.begin
    rw [if_neg (by simp [h1]), if_neg (by omega), if_neg (by omega), if_neg (by omega)]
  simp only [St.sync, hb]; rfl
theorem replace_ok (s : St) (b : List Nat) (h1 : s.dead = false) (h2 : b.length ≤ s.room) (h3 : s.left ≤ 0) : s.replace b = (0, { s with bs := b, syn := b.length, ops := s.ops + 1 }) := by
  have hb : s.begin b.length = (0, { s with ops := s.ops + 1 }) := by
    unfold St.begin
    rw [if_neg (by simp [h1]), if_neg (by omega), if_neg (by omega), if_neg (by omega)]
  simp only [St.replace, hb]; rfl
theorem replace_goes (s : St) (b : List Nat) (h1 : s.dead = false) (h2 : b.length ≤ s.room) (h3 : s.left = 1) : s.replace b = (13, { s with left := 0, dead := true }) := by
  have hb : s.begin b.length = (1, { s with left := 0, dead := true }) := by
    unfold St.begin
    rw [if_neg (by simp [h1]), if_neg (by omega), if_pos h3]
  simp only [St.replace, hb]; rfl

theorem drew_below (w : World) : Below w.heap.size w w.drew := (Below.refl _ _).drew
/-- Bytes, and what string makes of it. -/
theorem bytes_str (base p : Nat) (q : Option Nat) (s : St) (bs : List Nat) (n : Nat) (e1 : s.bs = bs) (e2 : bs.length = n) (w0 w : World) (h : Tp base w p q s) (hb : Below w0.heap.size w0 w) :
    Calls Tryz.prog 18 #[.pointer (some ⟨p, 0, none⟩)] w fun e w' => ∃ ao cap, e = .returned (.slice ao n cap) ∧ Bytes w' ao bs ∧ n ≤ cap ∧ cap ≤ maxLen ∧ (ao = none → cap = 0) ∧ Below w.heap.size w w' ∧ Below w0.heap.size w0 w' ∧ (convert 38 9 (.slice ao n cap)).run Tryz.prog w' = .ok (.string (str bs)) w' := by
  subst e1
  subst e2
  refine (bytes_any base p q s w h).mono ?_
  rintro e w' ⟨v, rfl, o, b⟩
  obtain ⟨ao, cap, rfl, h1, h2, h3, h4, _⟩ := o.slice
  exact ⟨ao, cap, rfl, h3, h1, h2, h4, b, hb.trans (b.mono hb.size), conv_str h3 rfl⟩

theorem wpList_append_bytes {w : World} {ops : Array Oper} {rest : List Oper} {o : Oper} {a : Act} {Q : Exit → Act → World → Prop} (hgd : o.guard = none) (s x : Operand)
    (ho : o.op = .call { callee := .builtin .append, args := #[s, x], argTypes := #[38, 38] }) (base : Nat) (v : Value) (xs : List Nat) (nx : Nat) (hnx : xs.length = nx) (hs : a.eval s = v) (hown : Own base w v xs)
    (ao : Option Addr) (m c : Nat) (bs : List Nat) (hx : a.eval x = .slice ao m c) (hm : bs.length = m) (hby : Bytes w ao bs) (hc : ao = none → c = 0) (hl : nx + m ≤ 1000000000000) (hb : base ≤ w.heap.size)
    (h : ∀ ao' cap' w', Own base w' (.slice ao' (nx + m) cap') (xs ++ bs) → Kept base (fun k => v.ownBlock = some k) w w' → ((Value.slice ao' (nx + m) cap').ownBlock = v.ownBlock ∨ (Value.slice ao' (nx + m) cap').ownBlock = some w.heap.size) → wpList Tryz.prog ops Q rest (a.put o.dst (.slice ao' (nx + m) cap')) w') :
    wpList Tryz.prog ops Q (o :: rest) a w := by
  obtain ⟨i0, hi, hz0, hz1, hz2⟩ := info_parts Tryz.info5
  subst hnx
  cases ao with
  | none =>
    obtain rfl := hby.none_nil
    obtain rfl := hc rfl
    obtain rfl : m = 0 := hm.symm
    obtain ⟨aov, capv, rfl, _⟩ := hown.slice
    refine wpList_append_own_none hgd s x 38 ho base 5 i0 1 Tryz.underlying38 hi _ _ _ hs hown.1 hx ?_
    exact h aov capv w (by simpa using hown) (Kept.refl _ _ _) (Or.inl rfl)
  | some ad =>
    refine wpList_append_own_at _ hgd s x 38 ho base 5 i0 (.int .u8 0) 1 1 Tryz.underlying38 hi hz0 hz1 hz2 rfl (by decide) _ _ _ hs hown.1 ad m c (u8s bs) hx (by simp [u8s, hm]) hby.news (u8s_one bs) (by unfold maxLen; omega) (by omega) hb ?_
    intro v' w' own' g' _ hat
    have o' : Own base w' v' (xs ++ bs) := by
      refine ⟨?_, ?_⟩
      · rw [List.length_append, hm, u8s_append]; exact own'
      · intro y hy
        rcases List.mem_append.1 hy with h1 | h1
        · exact hown.2 y h1
        · exact hby.1 y h1
    obtain ⟨ao', cap', rfl⟩ : ∃ ao' cap', v' = .slice ao' (xs.length + m) cap' := by
      rcases own'.2 with ⟨rfl, h0⟩ | ⟨gb, cap2, cur, rfl, _⟩
      · exact ⟨none, 0, by rw [h0]⟩
      · exact ⟨_, cap2, rfl⟩
    refine h ao' cap' w' o' ⟨(Below.refl _ _).grown g' hb (fun k hk => (hown.1.lt k hk).1), fun k hk hn => ?_⟩ hat
    obtain ⟨_, _, _, _, hold⟩ := g'
    exact hold k hk (fun e => hn e.symm)
theorem own_empty (base : Nat) (w : World) (h : base ≤ w.heap.size) : Own base (w.alloc (.cells #[] 5)) (.slice (some ⟨w.heap.size, 0, none⟩) 0 0) [] :=
  ⟨World.ownsRow_made w #[] 0 h (by decide) rfl, by simp⟩
/-- a row of the call's own lies apart from a tape. -/
def Apart (v : Value) (p : Nat) (q : Option Nat) : Prop := ∀ k, v.ownBlock = some k → k ≠ p ∧ q ≠ some k
theorem Apart.foot {v : Value} {p : Nat} {q : Option Nat} (h : Apart v p q) : ∀ k, v.ownBlock = some k → ¬ foot p q k := fun k hk hf => by
  rcases hf with hf | hf
  · exact (h k hk).1 hf
  · exact (h k hk).2 hf
theorem Apart.fresh {base : Nat} {w : World} {v : Value} {bs : List Nat} {p : Nat} {q q' : Option Nat} (h : Apart v p q) (ho : Own base w v bs) (hf : Fresh w q q') : Apart v p q' := fun k hk =>
  ⟨(h k hk).1, fun e => by
    rcases hf k e with h1 | h1
    · exact (h k hk).2 h1
    · have := (ho.1.lt k hk).2; omega⟩
theorem Apart.moved {base : Nat} {w : World} {v v' : Value} {p : Nat} {q : Option Nat} {s : St} (h : Apart v p q) (ht : Tp base w p q s) (hat : v'.ownBlock = v.ownBlock ∨ v'.ownBlock = some w.heap.size) : Apart v' p q := fun k hk => by
  rcases hat with e | e
  · exact h k (e ▸ hk)
  · rw [e] at hk
    cases hk
    refine ⟨fun e1 => by have := ht.lt.2.1; omega, fun e1 => by have := (ht.lt.2.2 _ e1).2; omega⟩
theorem Apart.new {base : Nat} {w w' : World} {v : Value} {bs : List Nat} {p : Nat} {q : Option Nat} {s : St} (ht : Tp base w p q s) (ho : Own w.heap.size w' v bs) : Apart v p q := fun k hk => by
  have h1 := (ho.1.lt k hk).1
  exact ⟨fun e1 => by have := ht.lt.2.1; omega, fun e1 => by have := (ht.lt.2.2 _ e1).2; omega⟩

theorem bytes_own (base p : Nat) (q : Option Nat) (s : St) (bs : List Nat) (n : Nat) (e1 : s.bs = bs) (e2 : bs.length = n) (w : World) (h : Tp base w p q s) :
    Calls Tryz.prog 18 #[.pointer (some ⟨p, 0, none⟩)] w fun e w' => ∃ ao cap, e = .returned (.slice ao n cap) ∧ Own w.heap.size w' (.slice ao n cap) bs ∧ Below w.heap.size w w' := by
  subst e1
  subst e2
  refine (bytes_any base p q s w h).mono ?_
  rintro e w' ⟨v, rfl, o, b⟩
  obtain ⟨ao, cap, rfl, _⟩ := o.slice
  exact ⟨ao, cap, rfl, o, b⟩

end Go.Proofs.YtnagfoclbdlenaaGreatDoor
