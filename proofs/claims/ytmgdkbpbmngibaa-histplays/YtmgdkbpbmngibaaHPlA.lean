/- HistPlays: two logs behind one base, a box with a call, a configuration. -/
import Derived.Test.YtmgdkbpbmngibaaHAgB
import Derived.Test.YtmgdkbpbmngibaaHXFrom
import Derived.Test.YtmgdkbpbmngibaaHXConf
import Derived.Test.YtmgdkbpbmngibaaHSameH
import Derived.Test.YtmgdkbpbmngibaaHMemA
import Derived.Test.YtmgdkbpbmngibaaHWithin
import Derived.Test.YtmgdkbpbmngibaaHKnown
import Derived.Test.YtmgdkbpbmngibaaKSameC
import Derived.Test.YtmgdkbpbmngibaaKPlain
namespace Go.Proofs.Ytmgdkbpbmngibaa
open Go.RowKit Go.Maps

/-- a log, the document's own one beside it, both behind b, and blocks that are neither's. -/
structure Tg (base : Nat) (w0 wr : World) (ph px : Nat) (b : Int) (rs rx : List Rw) (Dh Dx Q : Nat → Prop) : Prop where
  hs : Hs Dh wr ph b rs
  xs : Xs base Dx wr px b rx
  dh : ∀ k, Dh k → base ≤ k
  ap : ∀ k, Dh k → ¬ Dx k
  lh : rs.length ≤ 64
  lx : rx.length ≤ 64
  bl : Below base w0 wr
  sz : base ≤ wr.heap.size
  fr : ∀ k, Q k → ¬ Dh k ∧ ¬ Dx k
  ql : ∀ k, Q k → k < wr.heap.size
  b0 : 0 ≤ b
  b1 : b ≤ 29
section
variable {base : Nat} {w0 wr wz : World} {ph px : Nat} {b : Int} {rs rx : List Rw} {Dh Dx Q : Nat → Prop}
theorem Tg.kp {T : Nat → Prop} (h : Tg base w0 wr ph px b rs rx Dh Dx Q) (hk : Kp T wr wz) (h1 : ∀ k, T k → ¬ Dh k) (h2 : ∀ k, T k → ¬ Dx k) (h3 : ∀ k, T k → base ≤ k) : Tg base w0 wz ph px b rs rx Dh Dx Q :=
  ⟨h.hs.kp hk (fun k a b => h1 k b a), h.xs.kp hk (fun k a b => h2 k b a) h3, h.dh, h.ap, h.lh, h.lx, h.bl.trans (hk.below h3 h.sz), Nat.le_trans h.sz hk.size, h.fr, fun k x => Nat.lt_of_lt_of_le (h.ql k x) hk.size, h.b0, h.b1⟩
theorem Tg.below (h : Tg base w0 wr ph px b rs rx Dh Dx Q) (hb : Below wr.heap.size wr wz) : Tg base w0 wz ph px b rs rx Dh Dx Q :=
  h.kp (T := fun _ => False) (Kp.of_below hb) (fun _ x => x.elim) (fun _ x => x.elim) (fun _ x => x.elim)
/-- what is Q's may be written. -/
theorem Tg.own (h : Tg base w0 wr ph px b rs rx Dh Dx Q) {T : Nat → Prop} (hk : Kp T wr wz) (ht : ∀ k, T k → Q k) (h3 : ∀ k, T k → base ≤ k) : Tg base w0 wz ph px b rs rx Dh Dx Q :=
  h.kp hk (fun k x => (h.fr k (ht k x)).1) (fun k x => (h.fr k (ht k x)).2) h3
theorem Tg.more (h : Tg base w0 wr ph px b rs rx Dh Dx Q) {P : Nat → Prop} (hp : ∀ k, P k → Q k ∨ (¬ Dh k ∧ ¬ Dx k ∧ k < wr.heap.size)) : Tg base w0 wr ph px b rs rx Dh Dx P :=
  ⟨h.hs, h.xs, h.dh, h.ap, h.lh, h.lx, h.bl, h.sz, fun k x => (hp k x).elim (h.fr k) (fun y => ⟨y.1, y.2.1⟩), fun k x => (hp k x).elim (h.ql k) (fun y => y.2.2), h.b0, h.b1⟩
theorem Tg.hput (h : Tg base w0 wr ph px b rs rx Dh Dx Q) {R : List Rw} (hs : Hs (News Dh wr wz) wz ph b R) (hk : Kp Dh wr wz) (hl : R.length ≤ 64) : Tg base w0 wz ph px b R rx (News Dh wr wz) Dx Q :=
  ⟨hs, h.xs.kp hk (fun k a b => h.ap k b a) h.dh, fun k x => x.elim (h.dh k) (fun y => Nat.le_trans h.sz y.1), fun k x y => x.elim (fun z => h.ap k z y) (fun z => by have := h.xs.lt k y; omega), hl, h.lx, h.bl.trans (hk.below h.dh h.sz), Nat.le_trans h.sz hk.size,
    fun k x => ⟨fun y => y.elim (h.fr k x).1 (fun z => by have := h.ql k x; omega), (h.fr k x).2⟩, fun k x => Nat.lt_of_lt_of_le (h.ql k x) hk.size, h.b0, h.b1⟩
theorem Tg.xput (h : Tg base w0 wr ph px b rs rx Dh Dx Q) {R : List Rw} (xs : Xs base (News Dx wr wz) wz px b R) (hk : Kp Dx wr wz) (hl : R.length ≤ 64) : Tg base w0 wz ph px b rs R Dh (News Dx wr wz) Q :=
  ⟨h.hs.kp hk (fun k a b => h.ap k a b), xs, h.dh, fun k x y => y.elim (h.ap k x) (fun z => by have := h.hs.lt k x; omega), h.lh, hl, h.bl.trans (hk.below h.xs.low h.sz), Nat.le_trans h.sz hk.size,
    fun k x => ⟨(h.fr k x).1, fun y => y.elim (h.fr k x).2 (fun z => by have := h.ql k x; omega)⟩, fun k x => Nat.lt_of_lt_of_le (h.ql k x) hk.size, h.b0, h.b1⟩
theorem Tg.fith (h : Tg base w0 wr ph px b rs rx Dh Dx Q) : Fit b rs := ⟨h.b0, by have := h.b1; omega, by have := h.lh; omega⟩
theorem Tg.fitx (h : Tg base w0 wr ph px b rs rx Dh Dx Q) : Fit b rx := ⟨h.b0, by have := h.b1; omega, by have := h.lx; omega⟩
theorem putRows_leb {b : Int} {rs : List Rw} {i t : Int} {ts : List Int} {es : List En} (hb : 0 ≤ b) (h : rs.length ≤ 64) : (putRows b rs i t ts es).length ≤ 64 := by
  unfold putRows
  split
  · next h0 =>
    obtain ⟨h1, -, h3, -, -, h6⟩ := putNo_zero h0
    exact putGo_le b ts es rs (i + 1) (by omega) (by omega) h
  · exact h
theorem appRows_leb {b : Int} {rs : List Rw} {t : Int} {es : List En} (hb : 0 ≤ b) (h : rs.length ≤ 64) : (appRows b rs t es).length ≤ 64 := by
  unfold appRows
  split
  · next h0 =>
    unfold appNo at h0
    split at h0
    · split at h0
      · rw [List.length_append, List.length_map]; omega
      · cases h0
    · cases h0
  · exact h
/-- a box with a call, its terms in memory of the walk's own. -/
structure Bq (wr : World) (B b2 : Nat) (put : Bool) (i t : Int) (a3 : Option Addr) (m c3 K1 : Nat) (ts : List Int) (ae : Option Addr) (K2 ce : Nat) : Prop where
  c : wr.heap[B]? = some (boxC put i t (.slice a3 K1 c3) (.slice ae K2 ce))
  t : Ir b2 wr (.slice a3 m c3) ts
  l : ts.length = m
  k : K1 ≤ m
theorem Bq.kp {T : Nat → Prop} {B b2 : Nat} {put : Bool} {i t : Int} {a3 : Option Addr} {m c3 K1 K2 : Nat} {ts : List Int} {ae : Option Addr} {ce : Nat} (h : Bq wr B b2 put i t a3 m c3 K1 ts ae K2 ce) (hk : Kp T wr wz) (h1 : ¬ T B) (h2 : ∀ k, (Value.slice a3 m c3).ownBlock = some k → ¬ T k) : Bq wz B b2 put i t a3 m c3 K1 ts ae K2 ce :=
  ⟨hk.block h.c h1, h.t.kp hk h2, h.l, h.k⟩
theorem Bq.below {B b2 : Nat} {put : Bool} {i t : Int} {a3 : Option Addr} {m c3 K1 K2 : Nat} {ts : List Int} {ae : Option Addr} {ce : Nat} (h : Bq wr B b2 put i t a3 m c3 K1 ts ae K2 ce) (hb : Below wr.heap.size wr wz) : Bq wz B b2 put i t a3 m c3 K1 ts ae K2 ce :=
  h.kp (T := fun _ => False) (Kp.of_below hb) (fun x => x) (fun _ _ x => x)
/-- the terms, up to some. -/
theorem Bq.terms {B b2 : Nat} {put : Bool} {i t : Int} {a3 : Option Addr} {m c3 K1 K2 : Nat} {ts : List Int} {ae : Option Addr} {ce : Nat} (h : Bq wr B b2 put i t a3 m c3 K1 ts ae K2 ce) (J : Nat) (F : Nat → Prop) (hF : ∀ k, (Value.slice a3 m c3).ownBlock = some k → F k) : InF F wr a3 (ts.take J) := (h.t.inF.mono hF).front J
/-- a box with a plain configuration. -/
structure Cb (wr : World) (cb : Nat) (an : Option Addr) (nc cc : Nat) (new : List Int) (Q : Nat → Prop) : Prop where
  c : wr.heap[cb]? = some (.cells #[.slice none 0 0, .slice an nc cc] 34 (0, 0))
  f : Fr wr an new
  l : new.length = nc ∧ nc ≤ cc ∧ nc ≤ 1000000
  q : Q cb ∧ ∀ a, an = some a → Q a.block
theorem Cb.kp {T : Nat → Prop} {cb : Nat} {an : Option Addr} {nc cc : Nat} {new : List Int} (h : Cb wr cb an nc cc new Q) (hk : Kp T wr wz) (hd : ∀ k, Q k → ¬ T k) : Cb wz cb an nc cc new Q :=
  ⟨hk.block h.c (hd _ h.q.1), h.f.kp hk (fun _ a ha => hd _ (h.q.2 a ha)), h.l, h.q⟩
theorem Cb.below {cb : Nat} {an : Option Addr} {nc cc : Nat} {new : List Int} (h : Cb wr cb an nc cc new Q) (hb : Below wr.heap.size wr wz) : Cb wz cb an nc cc new Q :=
  h.kp (T := fun _ => False) (Kp.of_below hb) (fun _ _ x => x)
theorem Cb.cf {cb : Nat} {an : Option Addr} {nc cc : Nat} {new : List Int} (h : Cb wr cb an nc cc new Q) : Cf wr (.agg #[.slice none 0 0, .slice an nc cc]) [] new :=
  ⟨none, 0, 0, an, nc, cc, rfl, rfl, Nat.le_refl _, Fr.nil _, h.l.1, h.l.2.1, h.f⟩
end
theorem same_cf {Y : World} {v v' : Value} {o n : List Int} (h : Cf Y v o n) (h' : Cf Y v' o n) (ho : o.length ≤ 1000000) (hn : n.length ≤ 1000000) : Calls Try.prog 26 #[v, v'] Y fun e w' => e = .returned (.bool true) ∧ Below Y.heap.size Y w' := by
  obtain ⟨ao, no, co, an, nn, cn, rfl, e2, -, e4, e5, -, e7⟩ := h
  obtain ⟨bo, mo, po, bn, mn, pn, rfl, f2, -, f4, f5, -, f7⟩ := h'
  have hh := rsame_any ao an bo bn no nn co cn mo mn po pn o n o n e2 e5 f2 f5 (by omega) (by omega) Y e4.1 e7.1 f4.1 f7.1
  rw [show sameOf o n o n = true by unfold sameOf; simp] at hh
  exact hh
theorem cfOf_len {M : Nat} : ∀ (es : List En) (c : List Int × List Int), c.1.length ≤ M → c.2.length ≤ M → (∀ e ∈ es, e.ms.length ≤ M) → (cfOf c es).1.length ≤ M ∧ (cfOf c es).2.length ≤ M
  | [], _, h1, h2, _ => ⟨h1, h2⟩
  | e :: es, c, h1, h2, h3 => by
    have h := cf_len h1 h2 (h3 e (by simp))
    exact cfOf_len es (cfStep c e) h.1 h.2 (fun x hx => h3 x (by simp [hx]))
/-- the members of a log's rows are not too many. -/
theorem Xs.ms {base : Nat} {D : Nat → Prop} {w : World} {p : Nat} {b : Int} {rs : List Rw} (h : Xs base D w p b rs) : ∀ e ∈ rs.map (·.2), e.ms.length ≤ 1000000 := fun e he => by
  obtain ⟨⟨tv, ev, _, _, ⟨xs, _, h3⟩, _⟩, _⟩ := h
  obtain ⟨i, hi⟩ := List.getElem?_of_mem he
  obtain ⟨_, _, _, _, h4⟩ := h3 i e hi
  exact h4
end Go.Proofs.Ytmgdkbpbmngibaa
