/- A row of generations as bytes tell them, such as may not be, too. seal.parse: what it tells, in plain words. seal.parse: a contract. -/
import Derived.Test.YtgllokinadjiaaaGreatDoorWwReaderQ
namespace Go.Proofs.YtgllokinadjiaaaGreatDoor
open Go.RowKit Go.Maps

def Pg.row (g : Pg) (v1 v2 : Value) : List Value := [.int .i64 g.n, .int .i64 g.eng, .int .i64 g.base, v1, v2]
theorem Pg.row_one (g : Pg) {v1 v2 : Value} (h1 : v1.oneCell' = true) (h2 : v2.oneCell' = true) : ∀ u ∈ g.row v1 v2, u.oneCell' = true := fun u hu => by
  simp only [Pg.row, List.mem_cons, List.not_mem_nil, or_false] at hu
  rcases hu with rfl | rfl | rfl | rfl | rfl
  · rfl
  · rfl
  · rfl
  · exact h1
  · exact h2
/-- the members of one. -/
structure Mb (D : Nat → Prop) (w : World) (v1 v2 : Value) (g : Pg) : Prop where
  old : Ir 0 w v1 g.old
  new : Ir 0 w v2 g.ms
  d1 : ∀ k, v1.ownBlock = some k → D k
  d2 : ∀ k, v2.ownBlock = some k → D k
  l1 : g.old.length ≤ 1000000
  l2 : g.ms.length ≤ 1000000
theorem Mb.kp {D E : Nat → Prop} {w w' : World} {v1 v2 : Value} {g : Pg} (h : Mb D w v1 v2 g) (hk : Kp E w w') (hd : ∀ k, D k → ¬ E k) : Mb D w' v1 v2 g :=
  ⟨h.old.kp hk (fun k e => hd k (h.d1 k e)), h.new.kp hk (fun k e => hd k (h.d2 k e)), h.d1, h.d2, h.l1, h.l2⟩
theorem Mb.mono {D E : Nat → Prop} {w : World} {v1 v2 : Value} {g : Pg} (h : Mb D w v1 v2 g) (hd : ∀ k, D k → E k) : Mb E w v1 v2 g :=
  ⟨h.old, h.new, fun k e => hd k (h.d1 k e), fun k e => hd k (h.d2 k e), h.l1, h.l2⟩
def PRow (D : Nat → Prop) (w : World) (rv : Value) (gs : List Pg) : Prop :=
  ∃ xs, w.ownsRow 0 26 5 rv gs.length xs ∧ (∀ k, rv.ownBlock = some k → D k) ∧
    ∀ (i : Nat) (g : Pg), gs[i]? = some g → ∃ v1 v2, (∀ (j : Nat) (u : Value), (g.row v1 v2)[j]? = some u → xs[i * 5 + j]? = some u) ∧ Mb D w v1 v2 g
theorem PRow.kp {D E : Nat → Prop} {w w' : World} {rv : Value} {gs : List Pg} (h : PRow D w rv gs) (hk : Kp E w w') (hd : ∀ k, D k → ¬ E k) : PRow D w' rv gs := by
  obtain ⟨xs, h1, h2, h3⟩ := h
  refine ⟨xs, Ww.Kept.own hk h1 (fun k e => hd k (h2 k e)), h2, fun i r hi => ?_⟩
  obtain ⟨v1, v2, k1, k2⟩ := h3 i r hi
  exact ⟨v1, v2, k1, k2.kp hk hd⟩
theorem PRow.below {D : Nat → Prop} {w w' : World} {rv : Value} {gs : List Pg} (h : PRow D w rv gs) (hb : Below w.heap.size w w') : PRow D w' rv gs := h.kp (E := fun _ => False) (Kp.of_below hb) (fun _ _ x => x)
theorem PRow.mono {D E : Nat → Prop} {w : World} {rv : Value} {gs : List Pg} (h : PRow D w rv gs) (hd : ∀ k, D k → E k) : PRow E w rv gs := by
  obtain ⟨xs, h1, h2, h3⟩ := h
  refine ⟨xs, h1, fun k e => hd k (h2 k e), fun i r hi => ?_⟩
  obtain ⟨v1, v2, k1, k2⟩ := h3 i r hi
  exact ⟨v1, v2, k1, k2.mono hd⟩
theorem PRow.nil (D : Nat → Prop) (w : World) : PRow D w (.slice none 0 0) [] := ⟨[], ⟨rfl, Or.inl ⟨rfl, rfl⟩⟩, fun k e => by simp [Value.ownBlock] at e, fun i r hi => by simp at hi⟩
theorem PRow.slice {D : Nat → Prop} {w : World} {rv : Value} {gs : List Pg} (h : PRow D w rv gs) : ∃ ao cap, rv = .slice ao gs.length cap ∧ gs.length ≤ cap ∧ cap ≤ maxLen ∧ (ao = none → gs = [] ∧ cap = 0) := by
  obtain ⟨xs, h1, _, _⟩ := h
  rcases h1.2 with ⟨e1, e2⟩ | ⟨g, cap, cur, e1, _, _, e3, e4, _⟩
  · exact ⟨none, 0, by rw [e2]; exact e1, by omega, by decide, fun _ => ⟨List.eq_nil_of_length_eq_zero e2, rfl⟩⟩
  · exact ⟨_, cap, e1, e3, e4, fun e => by cases e⟩
/-- the five cells of one, and its members. -/
theorem PRow.at {D : Nat → Prop} {w : World} {ao : Option Addr} {n cap : Nat} {gs : List Pg} (h : PRow D w (.slice ao n cap) gs) {i : Nat} {g : Pg} (hi : gs[i]? = some g) :
    ∃ b v1 v2, ao = some ⟨b, 0, none⟩ ∧ D b ∧ (∀ (j : Nat) (u : Value), (g.row v1 v2)[j]? = some u → w.cell? ⟨b, i * 5 + j, none⟩ = some u) ∧ Mb D w v1 v2 g := by
  obtain ⟨xs, h1, h2, h3⟩ := h
  obtain ⟨v1, v2, k1, k2⟩ := h3 i g hi
  rcases h1.2 with ⟨e1, e2⟩ | ⟨b, cap', cur, e1, _⟩
  · have := (List.getElem?_eq_some_iff.1 hi).1; omega
  · cases e1
    refine ⟨b, v1, v2, rfl, h2 b rfl, fun j u hj => ?_, k2⟩
    have := World.ownsRow.cells h1 (g := b) rfl (i * 5 + j) u (k1 j u hj)
    rwa [Addr.add_lit, Nat.zero_add] at this
theorem PRow.tag {D : Nat → Prop} {w : World} {v : Value} {gs : List Pg} (h : PRow D w v gs) : ∀ k, v.ownBlock = some k → D k ∧ ∃ cur fr, w.heap[k]? = some (.cells cur 26 fr) := fun k hk => by
  obtain ⟨xs, h1, h2, _⟩ := h
  exact ⟨h2 k hk, (own_tag h1 k hk).2⟩
/-- one more. -/
theorem run_pushPg {D : Nat → Prop} {w : World} {v : Value} {gs : List Pg} (h : PRow D w v gs) (ty : TypeId) (nb : Nat) (g : Pg) (v1 v2 : Value) (hx : w.heap[nb]? = some (.cells (g.row v1 v2).toArray 26 (0, 0))) (hm : Mb D w v1 v2 g) (hl : gs.length ≤ 1000000) :
    ∃ v' w', (Builtin.append_ #[46, 46] ty #[v, .slice (some ⟨nb, 0, none⟩) 1 1]).run Tryz.prog w = .ok v' w' ∧ PRow (News D w w') w' v' (gs ++ [g]) ∧ w.grownBy w' v.ownBlock := by
  obtain ⟨i0, hi, hz0, hz1, hz2⟩ := info_parts Tryz.infoGn
  obtain ⟨xs, h1, h2, h3⟩ := h
  obtain ⟨v', w', hr, o', g', _, hat⟩ := run_append_own_at (P := Tryz.prog) w 0 46 ty 26 i0 _ 5 72 Tryz.underlying46 hi hz0 hz1 hz2 rfl (by decide) v gs.length xs h1 ⟨nb, 0, none⟩ 1 1 (g.row v1 v2) rfl
    (fun j u hj => by rw [Addr.add_lit, Nat.zero_add, cell_of_block hx]; simpa using hj) (g.row_one hm.old.oneCell hm.new.oneCell) (by unfold maxLen; omega) (by omega) (Nat.zero_le _)
  have grow : ∀ {u1 u2 : Value} {q : Pg}, Mb D w u1 u2 q → Mb (News D w w') w' u1 u2 q := fun hq => ⟨hq.old.grow h1 (by decide) g', hq.new.grow h1 (by decide) g', fun k e => Or.inl (hq.d1 k e), fun k e => Or.inl (hq.d2 k e), hq.l1, hq.l2⟩
  refine ⟨v', w', hr, ⟨_, by rw [List.length_append]; exact o', fun k hk => ?_, fun i q hq => ?_⟩, g'⟩
  · rcases hat with e | e
    · exact Or.inl (h2 k (e ▸ hk))
    · rw [e] at hk; cases hk
      exact Or.inr ⟨Nat.le_refl _, (o'.lt _ e).2⟩
  · have hxl : xs.length = gs.length * 5 := h1.1
    by_cases e : i < gs.length
    · rw [List.getElem?_append_left e] at hq
      obtain ⟨u1, u2, k1, k2⟩ := h3 i q hq
      refine ⟨u1, u2, fun j c hj => ?_, grow k2⟩
      have hj5 : j < 5 := (List.getElem?_eq_some_iff.1 hj).1
      rw [List.getElem?_append_left (by omega)]; exact k1 j c hj
    · rw [List.getElem?_append_right (by omega)] at hq
      have hi0 : i = gs.length := by have := (List.getElem?_eq_some_iff.1 hq).1; simp at this; omega
      subst hi0
      simp at hq
      subst hq
      refine ⟨v1, v2, fun j c hj => ?_, grow hm⟩
      rw [List.getElem?_append_right (by omega), show gs.length * 5 + j - xs.length = j by omega]; exact hj
theorem wp_pushPg {w : World} {o : Oper} {a : Act} {K : Act → World → Prop} {Q : Exit → Act → World → Prop} (s x : Operand)
    (ho : o.op = .call { callee := .builtin .append, args := #[s, x], argTypes := #[46, 46] }) (D : Nat → Prop) (v : Value) (gs : List Pg) (hs : a.eval s = v) (h : PRow D w v gs)
    (nb : Nat) (g : Pg) (v1 v2 : Value) (hx : a.eval x = .slice (some ⟨nb, 0, none⟩) 1 1) (hc : w.heap[nb]? = some (.cells (g.row v1 v2).toArray 26 (0, 0))) (hm : Mb D w v1 v2 g) (hl : gs.length ≤ 1000000)
    (hk : ∀ v' w', PRow (News D w w') w' v' (gs ++ [g]) → w.grownBy w' v.ownBlock → K (a.put o.dst v') w') : Oper.wp Tryz.prog o a w K Q := by
  obtain ⟨v', w', hr, h1, h2⟩ := run_pushPg h o.type nb g v1 v2 hc hm hl
  unfold Oper.wp execOp
  simp only [ho, resolve, invoke, builtin, Sem.run_bind, Sem.run_pure, Result.andThen_ok, List.map_toArray, List.map_cons, List.map_nil, hs, hx, hr]
  exact hk v' w' h1 h2
end Go.Proofs.YtgllokinadjiaaaGreatDoor
namespace Go.Proofs.YtgllokinadjiaaaGreatDoor
open Go.RowKit Go.Maps
open Ww (Given rconfig rlist rrule refuse)

/-- so many generations, the first flaw, and what is left. -/
def parseN : Nat → List Nat → List Pg × Nat × List Nat
  | 0, bs => ([], 0, bs)
  | k + 1, bs => if oneErr bs = 0 then (onePg bs :: (parseN k (bs.drop (oneSize bs))).1, (parseN k (bs.drop (oneSize bs))).2) else ([], oneErr bs, bs)
/-- all generations that bytes say, or a number. -/
def parseOf (bs : List Nat) : List Pg × Nat :=
  if bs = [] then ([], 8)
  else if (parseN (bs.getD 0 0) (bs.drop 1)).2.1 ≠ 0 then ([], (parseN (bs.getD 0 0) (bs.drop 1)).2.1)
  else if (parseN (bs.getD 0 0) (bs.drop 1)).2.2 ≠ [] then ([], 9)
  else ((parseN (bs.getD 0 0) (bs.drop 1)).1, 0)
theorem parseN_no {k : Nat} {bs : List Nat} (h : oneErr bs ≠ 0) : parseN (k + 1) bs = ([], oneErr bs, bs) := by simp only [parseN, if_neg h]
theorem parseN_ok {k : Nat} {bs : List Nat} (h : oneErr bs = 0) : parseN (k + 1) bs = (onePg bs :: (parseN k (bs.drop (oneSize bs))).1, (parseN k (bs.drop (oneSize bs))).2) := by simp only [parseN, if_pos h]
/-- an error that tells one number alone. -/
def Er (w : World) (v : Value) (c : Nat) : Prop := v = .iface 31 (.int .i64 ((c : Nat) : Int)) ∨ ∃ q, v = refV q ∧ Ref w q ((c : Nat) : Int)
theorem rrule5 (bs : List Nat) (s : Nat × Nat) : (rrule bs 5 s).1 ≤ 9 := by
  unfold rrule
  split
  · rename_i h
    unfold refuse Ww.rule at h
    simp only at h ⊢
    by_cases hc : ((Ww.joinTo 0 (Ww.taken bs 1 s) : Nat) : Int) < ((0 : Nat) : Int) ∨ ((9 : Nat) : Int) < ((Ww.joinTo 0 (Ww.taken bs 1 s) : Nat) : Int)
    · exact absurd h (by simp at hc ⊢; omega)
    · omega
  · simp
theorem onePg_len (bs : List Nat) : (onePg bs).old.length ≤ 9 ∧ (onePg bs).ms.length ≤ 9 := by
  unfold onePg rconfig rlist
  simp only [Ww.rlistN_len]
  exact ⟨rrule5 _ _, rrule5 _ _⟩
theorem oneSize_le {bs : List Nat} (h : oneErr bs = 0) : 24 ≤ bs.length ∧ oneSize bs ≤ bs.length := by
  have h24 : 24 ≤ bs.length := by
    unfold oneErr at h
    by_cases hc : bs.length < 24
    · rw [if_pos hc] at h; cases h
    · omega
  refine ⟨h24, ?_⟩
  have := cfgSize_le (bs.drop 24)
  rw [List.length_drop] at this
  unfold oneSize; omega
/-- a slice's tail. -/
theorem Given.drop {w : World} {a : Addr} {n cap : Nat} {bs : List Nat} (h : Given w (some a) n cap bs) (k : Nat) (hk : k ≤ n) : Given w (some (a.add k)) (n - k) (cap - k) (bs.drop k) :=
  ⟨by rw [List.length_drop, h.len], by have := h.room; omega, (fun h => by cases h), by have := h.big; omega, h.are.drop k⟩
theorem Given.none {w : World} (a : Addr) : Given w (some a) 0 0 [] := ⟨rfl, by decide, (fun h => by cases h), by decide, ⟨by simp, by simp⟩⟩
end Go.Proofs.YtgllokinadjiaaaGreatDoor
namespace Go.Proofs.YtgllokinadjiaaaGreatDoor
open Go.RowKit Go.Maps
open Ww (Given)

def zgen : Array Value := #[.int .i64 0, .int .i64 0, .int .i64 0, .slice none 0 0, .slice none 0 0]
/-- what the loop keeps. -/
structure Rd (w : World) (m : Nat) (b1 : List Nat) (k : Nat) (rv sv : Value) (wr : World) (done : List Pg) (ra : Option Addr) (rn rcap : Nat) (rest : List Nat) : Prop where
  km : k ≤ m
  len : done.length = k
  row : PRow (fun j => w.heap.size ≤ j) wr rv done
  slice : sv = .slice ra rn rcap
  given : Given w ra rn rcap rest
  eq : parseN m b1 = (done ++ (parseN (m - k) rest).1, (parseN (m - k) rest).2)
  b : Below w.heap.size w wr

set_option maxRecDepth 20000 in
set_option maxHeartbeats 1000000 in
theorem parse_any (ao : Option Addr) (n cap : Nat) (bs : List Nat) (w : World) (hg : Given w ao n cap bs) (hS : Ww.Start w) :
    Calls Tryz.prog 55 #[.slice ao n cap] w fun x w' => Below w.heap.size w w' ∧
      ((parseOf bs).2 ≠ 0 → ∃ v, x = .returned (.tuple #[.slice none 0 0, v]) ∧ Er w' v (parseOf bs).2) ∧
      ((parseOf bs).2 = 0 → ∃ rv, x = .returned (.tuple #[rv, .nilIface]) ∧ PRow (fun j => w.heap.size ≤ j) w' rv (parseOf bs).1) := by
  by_cases hn : n = 0
  · have hnil : bs = [] := List.eq_nil_of_length_eq_zero (by rw [hg.len]; exact hn)
    have he : parseOf bs = ([], 8) := by unfold parseOf; rw [if_pos hnil]
    rw [he]
    subst hn
    clear hg hS hnil he
    go_enter Tryz.func55, Tryz.ntmps55
    go_wp2
    refine bodyPost_ret (v := .tuple #[.slice none 0 0, .iface 31 (.int .i64 8)]) (by simp [results, Tryz.results55, go_sem]) rfl ?_
    first
    | exact ⟨Below.refl _ _, _, rfl, Or.inl rfl⟩
    | exact ⟨Below.refl _ _, fun _ => ⟨_, rfl, Or.inl rfl⟩, fun h => by cases h⟩
  · obtain ⟨a, rfl, hc0⟩ := hg.are.2 0 (by rw [hg.len]; omega)
    have hroom := hg.room
    have hbig := hg.big
    obtain ⟨m, hm⟩ : ∃ m, bs.getD 0 0 = m := ⟨_, rfl⟩
    have hm256 : m < 256 := by rw [← hm]; exact Ww.getD_lt hg.are.1 0
    rw [hm] at hc0
    have c0 : w.drew.cell? a = some (.int .u8 (m : Int)) := by
      have : a.add 0 = a := by unfold Addr.add; simp
      rw [this] at hc0; exact hc0
    have hne : bs ≠ [] := fun e => by have := hg.len; rw [e] at this; simp at this; omega
    have HPO : Hid (parseOf bs = if (parseN m (bs.drop 1)).2.1 ≠ 0 then ([], (parseN m (bs.drop 1)).2.1) else if (parseN m (bs.drop 1)).2.2 ≠ [] then ([], 9) else ((parseN m (bs.drop 1)).1, 0)) := hide (by unfold parseOf; rw [if_neg hne, hm])
    have q0 : ¬ (n : Int) = 0 := by omega
    have q1 : (0 : Int) < (n : Int) := by omega
    have q2 : (1 : Int) ≤ (n : Int) := by omega
    have q3 : (n : Int) ≤ (cap : Int) := by omega
    have q3' : (1 : Int) ≤ (cap : Int) := by omega
    by_cases hc1 : cap = 1
    · obtain rfl : n = 1 := by omega
      subst hc1
      have HG1 : Hid (Given w (some a) 0 0 (bs.drop 1)) := hide (by rw [List.drop_eq_nil_of_le (by rw [hg.len]; decide)]; exact Given.none a)
      have HS := hide hS
      clear hg hS hm hne hc0
      go_enter Tryz.func55, Tryz.ntmps55
      go_upto_region 3 with fail
      go_region_with fail
      all_goals go_wp2
      all_goals
        go_loopw [22, 6, 5, 7, 8, 9, 10, 2, 3] (fun i rv sv _ _ _ _ x2 x3 wr => ∃ k done ra rn rcap rest, i = .int .i64 ((k : Nat) : Int) ∧ Rd w m (bs.drop 1) k rv sv wr done ra rn rcap rest ∧ x2 = .slice none 0 0 ∧ x3 = .nilIface) (fun i _ _ _ _ _ _ _ _ _ => m - (intOf i).toNat)
        case atStart => exact ⟨0, [], _, _, _, _, rfl, ⟨Nat.zero_le _, rfl, PRow.nil _ _, rfl, unhide HG1, by simp, (Below.refl _ w).drew⟩, rfl, rfl⟩
        case round =>
          obtain ⟨k, done, ra, rn, rcap, rest, rfl, hR, rfl, rfl⟩ := hrel
          obtain ⟨hkm, hlen, hrow, rfl, hgv, heq, hb⟩ := hR
          have hrl := hgv.len
          have hrr := hgv.room
          have hrb := hgv.big
          have B := hide hb
          have ROW := hide hrow
          have GV := hide hgv
          have HEQ := hide heq
          have HL := hide hlen
          by_cases hlt : k < m
          · have p1 : (k : Int) < (m : Int) := by omega
            have PO := hide (parseOne_all ra rn rcap rest wr (hgv.below hb) ((unhide HS).upto hb (unhide HS).2.2))
            have hsz := fun h => oneSize_le (bs := rest) h
            rw [hrl] at hsz
            obtain ⟨er, her⟩ : ∃ er, oneErr rest = er := ⟨_, rfl⟩
            obtain ⟨sz, hsze⟩ : ∃ sz, oneSize rest = sz := ⟨_, rfl⟩
            have HNO := hide (parseN_no (k := m - k - 1) (bs := rest))
            have HOK := hide (parseN_ok (k := m - k - 1) (bs := rest))
            obtain ⟨g, hgn⟩ : ∃ g, onePg rest = g := ⟨_, rfl⟩
            have HLN := hide (onePg_len rest)
            rw [her, hsze, hgn] at PO
            rw [her] at HNO
            rw [her, hsze, hgn] at HOK
            rw [her, hsze] at hsz
            rw [hgn] at HLN
            have HK : Hid (m - k = m - k - 1 + 1) := hide (by omega)
            clear hrow hgv heq hb hlen hgn hsze hrl
            have HER := hide her
            clear her
            go_wp2_with fail
            refine (unhide PO).mono ?_
            rintro e w1 ⟨b1, f0, f1⟩
            clear PO
            by_cases hz : er = 0
            · subst hz
              obtain ⟨v1, v2, rfl, o1, o2⟩ := f1 rfl
              obtain ⟨h24, hszn⟩ := hsz rfl
              obtain ⟨ra, rfl⟩ := bytes_some (unhide GV) (by omega)
              obtain ⟨a1, c1, rfl⟩ := Ww.row_slice o1
              obtain ⟨a2, c2, rfl⟩ := Ww.row_slice o2
              obtain ⟨ro, rc, rfl, -⟩ := (unhide ROW).slice
              rw [unhide HL] at ROW ⊢
              obtain ⟨W, hW⟩ : ∃ W, w1.alloc (.cells #[.int .i64 g.n, .int .i64 g.eng, .int .i64 g.base, .slice a1 g.old.length c1, .slice a2 g.ms.length c2] 26) = W := ⟨_, rfl⟩
              have bw1 := (unhide B).trans (b1.mono (unhide B).size)
              have bW1 : Below w1.heap.size w1 W := by rw [← hW]; exact (Below.refl _ _).alloc (Nat.le_refl _) _
              have bW := below_far bw1 bW1
              have xW : W.heap[w1.heap.size]? = some (.cells #[.int .i64 g.n, .int .i64 g.eng, .int .i64 g.base, .slice a1 g.old.length c1, .slice a2 g.ms.length c2] 26 (0, 0)) := by rw [← hW]; exact box_at _ _
              have k0 : W.drew.cell? ⟨w1.heap.size, 0, none⟩ = some (.int .i64 g.n) := (cell_of_block (w := W.drew) xW).trans rfl
              have k1 : W.drew.cell? ⟨w1.heap.size, 1, none⟩ = some (.int .i64 g.eng) := (cell_of_block (w := W.drew) xW).trans rfl
              have k2 : W.drew.cell? ⟨w1.heap.size, 2, none⟩ = some (.int .i64 g.base) := (cell_of_block (w := W.drew) xW).trans rfl
              have k3 : W.drew.cell? ⟨w1.heap.size, 3, none⟩ = some (.slice a1 g.old.length c1) := (cell_of_block (w := W.drew) xW).trans rfl
              have k4 : W.drew.cell? ⟨w1.heap.size, 4, none⟩ = some (.slice a2 g.ms.length c2) := (cell_of_block (w := W.drew) xW).trans rfl
              have m1 : Mb (fun j => w.heap.size ≤ j) W (.slice a1 g.old.length c1) (.slice a2 g.ms.length c2) g :=
                ⟨(show Ir wr.heap.size W _ g.old from Ww.own_below o1 bW1).zero, (show Ir wr.heap.size W _ g.ms from Ww.own_below o2 bW1).zero, fun k e => Nat.le_trans (unhide B).size (own_tag o1 k e).1, fun k e => Nat.le_trans (unhide B).size (own_tag o2 k e).1, by have := (unhide HLN).1; omega, by have := (unhide HLN).2; omega⟩
              have MB := hide (fun o => m1.kp (Kp.of_below ((Below.refl W.heap.size W).drew.alloc (Nat.le_refl _) o)) (fun _ _ x => x))
              have R1 : PRow (fun j => w.heap.size ≤ j) W (.slice ro k rc) done := ((unhide ROW).below b1).below bW1
              have R3 := hide (fun o => R1.below ((Below.refl W.heap.size W).drew.alloc (Nat.le_refl _) o))
              have A3 := hide (fun o => bW.drew.alloc (w := W.drew) bW.size o)
              have HW := hide hW
              have BW := hide bW
              have p8 : (sz : Int) ≤ (rn : Int) := by omega
              have p9 : (rn : Int) ≤ (rcap : Int) := by omega
              have p10 : (sz : Int) ≤ (rcap : Int) := by omega
              have hdl : done.length ≤ 1000000 := by have := unhide HL; omega
              clear hW bW bW1 bw1 xW f0 f1 b1 o1 o2 m1 R1
              unfold Pg.cells
              by_cases hcs : rcap = sz
              · have HGN : Hid (Given w (some ra) 0 0 (rest.drop sz)) := hide (by
                  rw [List.drop_eq_nil_of_le (by rw [(unhide GV).len]; omega)]; exact Given.none ra)
                obtain rfl : rn = rcap := by omega
                subst hcs
                go_upto_region 11 with fail
                rw [unhide HW]
                go_region_law (first
                  | (refine step_app (.tmp 40) (.tmp 42) rfl rfl ?_
                     refine wp_pushPg (.tmp 40) (.tmp 42) rfl _ (.slice ro k rc) done rfl (unhide R3 _) W.heap.size g (.slice a1 g.old.length c1) (.slice a2 g.ms.length c2) rfl (box_at W.drew _) (unhide MB _) hdl ?_
                     intro v5 w5 y5 g5
                     have Y5 := hide y5
                     have G5 := hide g5
                     clear y5 g5))
                all_goals go_wp2
                all_goals go_roundw
                all_goals first
                  | (simp [intOf]; omega)
                  | (refine ⟨k + 1, done ++ [g], some ra, 0, 0, rest.drop rn, by go_num, ⟨by omega, by rw [List.length_append, unhide HL]; rfl, ?_, rfl, unhide HGN, ?_, ?_⟩, rfl, rfl⟩
                     · exact (unhide Y5).mono (fun j hj => by
                         rcases hj with hj | hj
                         · exact hj
                         · exact Nat.le_trans (unhide BW).size (Nat.le_trans (by simp) hj.1))
                     · rw [unhide HEQ, unhide HK, unhide HOK (by trivial), show m - (k + 1) = m - k - 1 by omega]; simp
                     · exact (unhide A3 _).grown (unhide G5) (unhide A3 _).size (fun k hk => ((unhide R3 (.cells #[] 26)).tag k hk).1))
              have HGN := hide (Given.drop (unhide GV) sz hszn)
              go_upto_region 11 with fail
              rw [unhide HW]
              go_region_law (first
                | (refine step_app (.tmp 40) (.tmp 42) rfl rfl ?_
                   refine wp_pushPg (.tmp 40) (.tmp 42) rfl _ (.slice ro k rc) done rfl (unhide R3 _) W.heap.size g (.slice a1 g.old.length c1) (.slice a2 g.ms.length c2) rfl (box_at W.drew _) (unhide MB _) hdl ?_
                   intro v5 w5 y5 g5
                   have Y5 := hide y5
                   have G5 := hide g5
                   clear y5 g5))
              all_goals go_wp2
              all_goals go_roundw
              all_goals first
                | (simp [intOf]; omega)
                | (refine ⟨k + 1, done ++ [g], some (ra.add sz), rn - sz, rcap - sz, rest.drop sz, by go_num, ⟨by omega, by rw [List.length_append, unhide HL]; rfl, ?_, rfl, unhide HGN, ?_, ?_⟩, rfl, rfl⟩
                   · exact (unhide Y5).mono (fun j hj => by
                       rcases hj with hj | hj
                       · exact hj
                       · exact Nat.le_trans (unhide BW).size (Nat.le_trans (by simp) hj.1))
                   · rw [unhide HEQ, unhide HK, unhide HOK (by trivial), show m - (k + 1) = m - k - 1 by omega]; simp
                   · exact (unhide A3 _).grown (unhide G5) (unhide A3 _).size (fun k hk => ((unhide R3 (.cells #[] 26)).tag k hk).1))
            · obtain rfl := f0 hz
              obtain ⟨W, hW⟩ : ∃ W, w1.alloc (.cells #[.int .i64 0, .int .i64 0, .int .i64 0, .slice none 0 0, .slice none 0 0] 26) = W := ⟨_, rfl⟩
              have bW : Below w.heap.size w W := by rw [← hW]; exact (((unhide B).trans (b1.mono (unhide B).size))).alloc (((unhide B).trans (b1.mono (unhide B).size))).size _
              have BW := hide bW
              have HW := hide hW
              have HZ := hide hz
              have q8 : ¬ (er : Int) = 0 := by omega
              have q9 : IntKind.i64.wrap ((k : Int) + 1) = (k : Int) + 1 := by rw [IntKind.wrap_i64] <;> omega
              clear hW bW hz f0 f1 b1
              unfold noGen
              go_upto_region 9 with fail
              rw [unhide HW]
              go_wp2
              refine bodyPost_ret (v := .tuple #[.slice none 0 0, refV W.heap.size]) (by simp [results, Tryz.results55, go_sem, refV]) rfl ?_
              have hpo : parseOf bs = ([], er) := by
                rw [unhide HPO, unhide HEQ, unhide HK, unhide HNO (unhide HZ)]
                simp only
                rw [if_pos (unhide HZ)]
              rw [hpo]
              exact ⟨(unhide BW).alloc (unhide BW).size _, fun _ => ⟨_, rfl, Or.inr ⟨_, rfl, Ref.new _ _ _ rfl⟩⟩, fun h => absurd h (unhide HZ)⟩
          · obtain rfl : k = m := by omega
            have hpm : parseN k (bs.drop 1) = (done, 0, rest) := by rw [heq]; simp [parseN]
            by_cases hr0 : rn = 0
            · have hnil : rest = [] := List.eq_nil_of_length_eq_zero (by omega)
              have hpo : parseOf bs = (done, 0) := by rw [unhide HPO, hpm, hnil]; simp
              have HP2 := hide hpo
              subst hr0
              clear hpm hpo hrow hgv heq hb hlen hrl hnil
              go_wp2
              refine bodyPost_ret (v := .tuple #[u6, .nilIface]) (by simp [results, Tryz.results55, go_sem]) rfl ?_
              rw [unhide HP2]
              first
              | exact ⟨unhide B, fun h => absurd rfl h, fun _ => ⟨_, rfl, unhide ROW⟩⟩
              | exact ⟨unhide B, _, rfl, unhide ROW⟩
            · have hne : rest ≠ [] := fun e => by rw [e] at hrl; simp at hrl; omega
              have hpo : parseOf bs = ([], 9) := by rw [unhide HPO, hpm]; simp [hne]
              have HP2 := hide hpo
              have p1 : (0 : Int) < (rn : Int) := by omega
              have p2 : 0 < rn := by omega
              clear hpm hpo hrow hgv heq hb hlen hrl hne
              go_wp2
              refine bodyPost_ret (v := .tuple #[.slice none 0 0, .iface 31 (.int .i64 9)]) (by simp [results, Tryz.results55, go_sem]) rfl ?_
              rw [unhide HP2]
              first
              | exact ⟨unhide B, fun _ => ⟨_, rfl, Or.inl rfl⟩, fun h => by cases h⟩
              | exact ⟨unhide B, _, rfl, Or.inl rfl⟩
    have HG1 := hide (Ww.Given.below (Given.drop hg 1 (by omega)) (Below.refl _ w))
    have HS := hide hS
    clear hg hS hm hne hc0
    go_enter Tryz.func55, Tryz.ntmps55
    go_upto_region 3 with fail
    go_region_with fail
    all_goals go_wp2
    all_goals
      go_loopw [22, 6, 5, 7, 8, 9, 10, 2, 3] (fun i rv sv _ _ _ _ x2 x3 wr => ∃ k done ra rn rcap rest, i = .int .i64 ((k : Nat) : Int) ∧ Rd w m (bs.drop 1) k rv sv wr done ra rn rcap rest ∧ x2 = .slice none 0 0 ∧ x3 = .nilIface) (fun i _ _ _ _ _ _ _ _ _ => m - (intOf i).toNat)
      case atStart => exact ⟨0, [], _, _, _, _, rfl, ⟨Nat.zero_le _, rfl, PRow.nil _ _, rfl, unhide HG1, by simp, (Below.refl _ w).drew⟩, rfl, rfl⟩
      case round =>
        obtain ⟨k, done, ra, rn, rcap, rest, rfl, hR, rfl, rfl⟩ := hrel
        obtain ⟨hkm, hlen, hrow, rfl, hgv, heq, hb⟩ := hR
        have hrl := hgv.len
        have hrr := hgv.room
        have hrb := hgv.big
        have B := hide hb
        have ROW := hide hrow
        have GV := hide hgv
        have HEQ := hide heq
        have HL := hide hlen
        by_cases hlt : k < m
        · have p1 : (k : Int) < (m : Int) := by omega
          have PO := hide (parseOne_all ra rn rcap rest wr (hgv.below hb) ((unhide HS).upto hb (unhide HS).2.2))
          have hsz := fun h => oneSize_le (bs := rest) h
          rw [hrl] at hsz
          obtain ⟨er, her⟩ : ∃ er, oneErr rest = er := ⟨_, rfl⟩
          obtain ⟨sz, hsze⟩ : ∃ sz, oneSize rest = sz := ⟨_, rfl⟩
          have HNO := hide (parseN_no (k := m - k - 1) (bs := rest))
          have HOK := hide (parseN_ok (k := m - k - 1) (bs := rest))
          obtain ⟨g, hgn⟩ : ∃ g, onePg rest = g := ⟨_, rfl⟩
          have HLN := hide (onePg_len rest)
          rw [her, hsze, hgn] at PO
          rw [her] at HNO
          rw [her, hsze, hgn] at HOK
          rw [her, hsze] at hsz
          rw [hgn] at HLN
          have HK : Hid (m - k = m - k - 1 + 1) := hide (by omega)
          clear hrow hgv heq hb hlen hgn hsze hrl
          have HER := hide her
          clear her
          go_wp2_with fail
          refine (unhide PO).mono ?_
          rintro e w1 ⟨b1, f0, f1⟩
          clear PO
          by_cases hz : er = 0
          · subst hz
            obtain ⟨v1, v2, rfl, o1, o2⟩ := f1 rfl
            obtain ⟨h24, hszn⟩ := hsz rfl
            obtain ⟨ra, rfl⟩ := bytes_some (unhide GV) (by omega)
            obtain ⟨a1, c1, rfl⟩ := Ww.row_slice o1
            obtain ⟨a2, c2, rfl⟩ := Ww.row_slice o2
            obtain ⟨ro, rc, rfl, -⟩ := (unhide ROW).slice
            rw [unhide HL] at ROW ⊢
            obtain ⟨W, hW⟩ : ∃ W, w1.alloc (.cells #[.int .i64 g.n, .int .i64 g.eng, .int .i64 g.base, .slice a1 g.old.length c1, .slice a2 g.ms.length c2] 26) = W := ⟨_, rfl⟩
            have bw1 := (unhide B).trans (b1.mono (unhide B).size)
            have bW1 : Below w1.heap.size w1 W := by rw [← hW]; exact (Below.refl _ _).alloc (Nat.le_refl _) _
            have bW := below_far bw1 bW1
            have xW : W.heap[w1.heap.size]? = some (.cells #[.int .i64 g.n, .int .i64 g.eng, .int .i64 g.base, .slice a1 g.old.length c1, .slice a2 g.ms.length c2] 26 (0, 0)) := by rw [← hW]; exact box_at _ _
            have k0 : W.drew.cell? ⟨w1.heap.size, 0, none⟩ = some (.int .i64 g.n) := (cell_of_block (w := W.drew) xW).trans rfl
            have k1 : W.drew.cell? ⟨w1.heap.size, 1, none⟩ = some (.int .i64 g.eng) := (cell_of_block (w := W.drew) xW).trans rfl
            have k2 : W.drew.cell? ⟨w1.heap.size, 2, none⟩ = some (.int .i64 g.base) := (cell_of_block (w := W.drew) xW).trans rfl
            have k3 : W.drew.cell? ⟨w1.heap.size, 3, none⟩ = some (.slice a1 g.old.length c1) := (cell_of_block (w := W.drew) xW).trans rfl
            have k4 : W.drew.cell? ⟨w1.heap.size, 4, none⟩ = some (.slice a2 g.ms.length c2) := (cell_of_block (w := W.drew) xW).trans rfl
            have m1 : Mb (fun j => w.heap.size ≤ j) W (.slice a1 g.old.length c1) (.slice a2 g.ms.length c2) g :=
              ⟨(show Ir wr.heap.size W _ g.old from Ww.own_below o1 bW1).zero, (show Ir wr.heap.size W _ g.ms from Ww.own_below o2 bW1).zero, fun k e => Nat.le_trans (unhide B).size (own_tag o1 k e).1, fun k e => Nat.le_trans (unhide B).size (own_tag o2 k e).1, by have := (unhide HLN).1; omega, by have := (unhide HLN).2; omega⟩
            have MB := hide (fun o => m1.kp (Kp.of_below ((Below.refl W.heap.size W).drew.alloc (Nat.le_refl _) o)) (fun _ _ x => x))
            have R1 : PRow (fun j => w.heap.size ≤ j) W (.slice ro k rc) done := ((unhide ROW).below b1).below bW1
            have R3 := hide (fun o => R1.below ((Below.refl W.heap.size W).drew.alloc (Nat.le_refl _) o))
            have A3 := hide (fun o => bW.drew.alloc (w := W.drew) bW.size o)
            have HW := hide hW
            have BW := hide bW
            have p8 : (sz : Int) ≤ (rn : Int) := by omega
            have p9 : (rn : Int) ≤ (rcap : Int) := by omega
            have p10 : (sz : Int) ≤ (rcap : Int) := by omega
            have hdl : done.length ≤ 1000000 := by have := unhide HL; omega
            clear hW bW bW1 bw1 xW f0 f1 b1 o1 o2 m1 R1
            unfold Pg.cells
            by_cases hcs : rcap = sz
            · have HGN : Hid (Given w (some ra) 0 0 (rest.drop sz)) := hide (by
                rw [List.drop_eq_nil_of_le (by rw [(unhide GV).len]; omega)]; exact Given.none ra)
              obtain rfl : rn = rcap := by omega
              subst hcs
              go_upto_region 11 with fail
              rw [unhide HW]
              go_region_law (first
                | (refine step_app (.tmp 40) (.tmp 42) rfl rfl ?_
                   refine wp_pushPg (.tmp 40) (.tmp 42) rfl _ (.slice ro k rc) done rfl (unhide R3 _) W.heap.size g (.slice a1 g.old.length c1) (.slice a2 g.ms.length c2) rfl (box_at W.drew _) (unhide MB _) hdl ?_
                   intro v5 w5 y5 g5
                   have Y5 := hide y5
                   have G5 := hide g5
                   clear y5 g5))
              all_goals go_wp2
              all_goals go_roundw
              all_goals first
                | (simp [intOf]; omega)
                | (refine ⟨k + 1, done ++ [g], some ra, 0, 0, rest.drop rn, by go_num, ⟨by omega, by rw [List.length_append, unhide HL]; rfl, ?_, rfl, unhide HGN, ?_, ?_⟩, rfl, rfl⟩
                   · exact (unhide Y5).mono (fun j hj => by
                       rcases hj with hj | hj
                       · exact hj
                       · exact Nat.le_trans (unhide BW).size (Nat.le_trans (by simp) hj.1))
                   · rw [unhide HEQ, unhide HK, unhide HOK (by trivial), show m - (k + 1) = m - k - 1 by omega]; simp
                   · exact (unhide A3 _).grown (unhide G5) (unhide A3 _).size (fun k hk => ((unhide R3 (.cells #[] 26)).tag k hk).1))
            have HGN := hide (Given.drop (unhide GV) sz hszn)
            go_upto_region 11 with fail
            rw [unhide HW]
            go_region_law (first
              | (refine step_app (.tmp 40) (.tmp 42) rfl rfl ?_
                 refine wp_pushPg (.tmp 40) (.tmp 42) rfl _ (.slice ro k rc) done rfl (unhide R3 _) W.heap.size g (.slice a1 g.old.length c1) (.slice a2 g.ms.length c2) rfl (box_at W.drew _) (unhide MB _) hdl ?_
                 intro v5 w5 y5 g5
                 have Y5 := hide y5
                 have G5 := hide g5
                 clear y5 g5))
            all_goals go_wp2
            all_goals go_roundw
            all_goals first
              | (simp [intOf]; omega)
              | (refine ⟨k + 1, done ++ [g], some (ra.add sz), rn - sz, rcap - sz, rest.drop sz, by go_num, ⟨by omega, by rw [List.length_append, unhide HL]; rfl, ?_, rfl, unhide HGN, ?_, ?_⟩, rfl, rfl⟩
                 · exact (unhide Y5).mono (fun j hj => by
                     rcases hj with hj | hj
                     · exact hj
                     · exact Nat.le_trans (unhide BW).size (Nat.le_trans (by simp) hj.1))
                 · rw [unhide HEQ, unhide HK, unhide HOK (by trivial), show m - (k + 1) = m - k - 1 by omega]; simp
                 · exact (unhide A3 _).grown (unhide G5) (unhide A3 _).size (fun k hk => ((unhide R3 (.cells #[] 26)).tag k hk).1))
          · obtain rfl := f0 hz
            obtain ⟨W, hW⟩ : ∃ W, w1.alloc (.cells #[.int .i64 0, .int .i64 0, .int .i64 0, .slice none 0 0, .slice none 0 0] 26) = W := ⟨_, rfl⟩
            have bW : Below w.heap.size w W := by rw [← hW]; exact (((unhide B).trans (b1.mono (unhide B).size))).alloc (((unhide B).trans (b1.mono (unhide B).size))).size _
            have BW := hide bW
            have HW := hide hW
            have HZ := hide hz
            have q8 : ¬ (er : Int) = 0 := by omega
            have q9 : IntKind.i64.wrap ((k : Int) + 1) = (k : Int) + 1 := by rw [IntKind.wrap_i64] <;> omega
            clear hW bW hz f0 f1 b1
            unfold noGen
            go_upto_region 9 with fail
            rw [unhide HW]
            go_wp2
            refine bodyPost_ret (v := .tuple #[.slice none 0 0, refV W.heap.size]) (by simp [results, Tryz.results55, go_sem, refV]) rfl ?_
            have hpo : parseOf bs = ([], er) := by
              rw [unhide HPO, unhide HEQ, unhide HK, unhide HNO (unhide HZ)]
              simp only
              rw [if_pos (unhide HZ)]
            rw [hpo]
            exact ⟨(unhide BW).alloc (unhide BW).size _, fun _ => ⟨_, rfl, Or.inr ⟨_, rfl, Ref.new _ _ _ rfl⟩⟩, fun h => absurd h (unhide HZ)⟩
        · obtain rfl : k = m := by omega
          have hpm : parseN k (bs.drop 1) = (done, 0, rest) := by rw [heq]; simp [parseN]
          by_cases hr0 : rn = 0
          · have hnil : rest = [] := List.eq_nil_of_length_eq_zero (by omega)
            have hpo : parseOf bs = (done, 0) := by rw [unhide HPO, hpm, hnil]; simp
            have HP2 := hide hpo
            subst hr0
            clear hpm hpo hrow hgv heq hb hlen hrl hnil
            go_wp2
            refine bodyPost_ret (v := .tuple #[u6, .nilIface]) (by simp [results, Tryz.results55, go_sem]) rfl ?_
            rw [unhide HP2]
            first
            | exact ⟨unhide B, fun h => absurd rfl h, fun _ => ⟨_, rfl, unhide ROW⟩⟩
            | exact ⟨unhide B, _, rfl, unhide ROW⟩
          · have hne : rest ≠ [] := fun e => by rw [e] at hrl; simp at hrl; omega
            have hpo : parseOf bs = ([], 9) := by rw [unhide HPO, hpm]; simp [hne]
            have HP2 := hide hpo
            have p1 : (0 : Int) < (rn : Int) := by omega
            have p2 : 0 < rn := by omega
            clear hpm hpo hrow hgv heq hb hlen hrl hne
            go_wp2
            refine bodyPost_ret (v := .tuple #[.slice none 0 0, .iface 31 (.int .i64 9)]) (by simp [results, Tryz.results55, go_sem]) rfl ?_
            rw [unhide HP2]
            first
            | exact ⟨unhide B, fun _ => ⟨_, rfl, Or.inl rfl⟩, fun h => by cases h⟩
            | exact ⟨unhide B, _, rfl, Or.inl rfl⟩
end Go.Proofs.YtgllokinadjiaaaGreatDoor
