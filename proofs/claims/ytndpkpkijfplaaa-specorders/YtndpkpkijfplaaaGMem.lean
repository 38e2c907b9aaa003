/- What is known, in memory: three maps, two of them keyed by requests. -/
import Derived.Test.YtndpkpkijfplaaaGFunc
import Derived.DeepKeys4
import Derived.MapViews
import Derived.Maps.OwnSet
import Derived.Maps.Own
namespace Go.Proofs.Ytndpkpkijfplaaa
open Go.RowKit Go.Maps

theorem laidOut : laidOutB Try.prog = true := by kernel_rfl
theorem rowRq : (62 : TypeId) < Try.prog.types.size := of_decide_eq_true (by kernel_rfl)
theorem wideRq : (match Try.prog.underlying 62 with | some (.array _ _) | some (.struct _) => true | _ => false) = true := by kernel_rfl
theorem lawRq : WideMaps.KeyLaw Try.prog 62 := deep_law_laid laidOut (m := 3) (by omega) rowRq (by kernel_rfl) wideRq
theorem keyedRq : Keyed Try.prog 62 := Keyed.of_law lawRq
theorem keyedI : Keyed Try.prog 3 := int_keyed Try.underlying3
abbrev rq (c s : Int) : Value := .agg #[.int .i64 c, .int .i64 s]
/-- a request as a key. -/
def kq (c s : Int) : Lit := .string (keyBytes [.int .i64 c, .int .i64 s])
def wf64 (x : Int) : Prop := (Lit.int .i64 x).wf = true
theorem wf_range {x : Int} (h : -9223372036854775808 ≤ x ∧ x ≤ 9223372036854775807) : wf64 x := by
  unfold wf64; exact WalkArith.wf_i64 (by omega)
theorem keyTypeRq : Try.prog.keyType 62 = true := by kernel_rfl
theorem cellsRq : Try.prog.cellsOf 62 = 2 := by kernel_rfl
theorem lits_int {x : Int} (hx : wf64 x) (d : Nat) : Try.prog.keyLits (d + 1) 3 [.int .i64 x] = some [.int .i64 x] := by
  unfold wf64 at hx
  simp only [Program.keyLits, Try.underlying3, hx, and_self, if_true]
theorem cellsI : Try.prog.cellsOf 3 = 1 := by kernel_rfl
theorem lits_rq {c s : Int} (hc : wf64 c) (hs : wf64 s) (d : Nat) : Try.prog.keyLits (d + 2) 62 [.int .i64 c, .int .i64 s] = some [.int .i64 c, .int .i64 s] := by
  unfold Program.keyLits
  simp only [Try.underlying62]
  simp [cellsRq, cellsI, lits_int hc d, lits_int hs d]
theorem kq_at {c s : Int} (hc : wf64 c) (hs : wf64 s) : keyOf Try.prog 62 (rq c s) = some (kq c s) := by
  have hf : (rq c s).formed Try.prog 62 = true := by simp [Value.formed, Try.underlying62, cellsRq]
  have hl : Try.prog.keyLits (Try.prog.types.size + 1) 62 (rq c s).cells.toList = some [.int .i64 c, .int .i64 s] := by
    obtain ⟨d, hd⟩ : ∃ d, Try.prog.types.size + 1 = d + 2 := ⟨Try.prog.types.size - 1, by have h : (62 : Nat) < Try.prog.types.size := rowRq; omega⟩
    rw [hd]
    exact lits_rq hc hs d
  unfold keyOf kq
  rw [Try.underlying62]
  simp only [keyTypeRq, hf, hl, Bool.and_self, if_true, Option.map_some]
theorem kq_inj {c s c' s' : Int} (hc : wf64 c) (hs : wf64 s) (hc' : wf64 c') (hs' : wf64 s') (h : kq c s = kq c' s') : c = c' ∧ s = s' := by
  have h2 := kq_at hc' hs'
  rw [← h] at h2
  have := keyedRq.inj (kq_at hc hs) h2
  simpa using this
theorem kq_key (c s : Int) : WideAt.IsKeyLit (kq c s) := by simp [kq, WideAt.IsKeyLit]

/-- an element that is held as it is. -/
def asIs (v : Value) : Option (DataW Value × List MemPlace) := some (.held v, [])
abbrev zent : Value := .agg #[.int .i64 0, .int .i64 0, .int .i64 0, .string ⟨#[]⟩, .slice none 0 0, .int .i64 0]
theorem zeroE (w : World) : (zeroValue 29).run Try.prog w = .ok zent w := by kernel_rfl
theorem zeroI (w : World) : (zeroValue 3).run Try.prog w = .ok (.int .i64 0) w := by kernel_rfl
theorem zeroR (w : World) : (zeroValue 62).run Try.prog w = .ok (rq 0 0) w := by kernel_rfl
/-- an entry as a value. -/
abbrev ev (e : En) (mo : Option Addr) (mc : Nat) : Value := .agg #[.int .i64 e.kind, .int .i64 e.client, .int .i64 e.seq, .string e.text, .slice mo e.ms.length mc, .int .i64 e.dest]
/-- an entry whose members can be read. -/
def EnA (A : World) (e : En) (mo : Option Addr) : Prop := IntsR A mo e.ms ∧ e.ms.length ≤ 1000000
/-- which entry was called. -/
def CMap (A w : World) (q c : Nat) (f : Int → Int → Option En) : Prop :=
  ∃ M : DataW Value, w.ownsMap Try.prog 62 asIs q c M ∧ ∀ x y, wf64 x → wf64 y → Maps.has M (kq x y) = (f x y).isSome ∧ ∀ e, f x y = some e → ∃ mo mc, M.atKey (kq x y) (.held zent) = .held (ev e mo mc) ∧ EnA A e mo
/-- where each request stands. -/
def PMap (w : World) (q c : Nat) (f : Int → Int → Option Int) : Prop :=
  ∃ M : DataW Value, w.ownsMap Try.prog 62 asIs q c M ∧ ∀ x y, wf64 x → wf64 y → Maps.has M (kq x y) = (f x y).isSome ∧ M.atKey (kq x y) (.held (.int .i64 0)) = .held (.int .i64 ((f x y).getD 0))
/-- who stands where. -/
def HMap (w : World) (q c : Nat) (f : Int → Option (Int × Int)) : Prop :=
  ∃ M : DataW Value, w.ownsMap Try.prog 3 asIs q c M ∧ ∀ x, wf64 x → Maps.has M (.int .i64 x) = (f x).isSome ∧ M.atKey (.int .i64 x) (.held (rq 0 0)) = .held (rq ((f x).getD (0, 0)).1 ((f x).getD (0, 0)).2)
theorem owns_stay {P : Program} {k : TypeId} {R : Value → Option (DataW Value × List MemPlace)} {w w' : World} {q c : Nat} {M : DataW Value} (h : w.ownsMap P k R q c M) (hq : w'.heap[q]? = w.heap[q]?) : w'.ownsMap P k R q c M := by
  obtain ⟨es, cl, e1, e2⟩ := h
  exact ⟨es, cl, hq.trans e1, e2⟩
theorem owns_obj {P : Program} {k : TypeId} {R : Value → Option (DataW Value × List MemPlace)} {w : World} {q c : Nat} {M : DataW Value} (h : w.ownsMap P k R q c M) : ∃ es cl, w.heap[q]? = some (.map es cl) := by
  obtain ⟨es, cl, e1, _⟩ := h; exact ⟨es, cl, e1⟩
theorem CMap.stay {A w w' : World} {q c : Nat} {f : Int → Int → Option En} (h : CMap A w q c f) (hq : w'.heap[q]? = w.heap[q]?) : CMap A w' q c f := by
  obtain ⟨M, h1, h2⟩ := h; exact ⟨M, owns_stay h1 hq, h2⟩
theorem PMap.stay {w w' : World} {q c : Nat} {f : Int → Int → Option Int} (h : PMap w q c f) (hq : w'.heap[q]? = w.heap[q]?) : PMap w' q c f := by
  obtain ⟨M, h1, h2⟩ := h; exact ⟨M, owns_stay h1 hq, h2⟩
theorem HMap.stay {w w' : World} {q c : Nat} {f : Int → Option (Int × Int)} (h : HMap w q c f) (hq : w'.heap[q]? = w.heap[q]?) : HMap w' q c f := by
  obtain ⟨M, h1, h2⟩ := h; exact ⟨M, owns_stay h1 hq, h2⟩
theorem CMap.mono {A w : World} {q c c' : Nat} {f : Int → Int → Option En} (h : CMap A w q c f) (hc : c ≤ c') : CMap A w q c' f := by
  obtain ⟨M, h1, h2⟩ := h; exact ⟨M, h1.mono hc, h2⟩
theorem PMap.mono {w : World} {q c c' : Nat} {f : Int → Int → Option Int} (h : PMap w q c f) (hc : c ≤ c') : PMap w q c' f := by
  obtain ⟨M, h1, h2⟩ := h; exact ⟨M, h1.mono hc, h2⟩
theorem HMap.mono {w : World} {q c c' : Nat} {f : Int → Option (Int × Int)} (h : HMap w q c f) (hc : c ≤ c') : HMap w q c' f := by
  obtain ⟨M, h1, h2⟩ := h; exact ⟨M, h1.mono hc, h2⟩
theorem CMap.look {A w : World} {q c : Nat} {f : Int → Int → Option En} (h : CMap A w q c f) {x y : Int} (hx : wf64 x) (hy : wf64 y) :
    (f x y = none ∧ (Instr.lookup 56 (.map (some q)) (rq x y) true).run Try.prog w = .ok (.tuple #[zent, .bool false]) w) ∨
    ∃ e mo mc, f x y = some e ∧ EnA A e mo ∧ (Instr.lookup 56 (.map (some q)) (rq x y) true).run Try.prog w = .ok (.tuple #[ev e mo mc, .bool true]) w := by
  obtain ⟨M, h1, h2⟩ := h
  obtain ⟨h3, h4⟩ := h2 x y hx hy
  obtain ⟨v, ps, r1, r2⟩ := h1.look_ok keyedRq Try.underlying56 (zeroE w) rfl (kq_at hx hy)
  cases hf : f x y with
  | none =>
    left
    rw [hf] at h3
    rw [atKey_of_not_has h3] at r2
    simp only [asIs, Option.some.injEq, Prod.mk.injEq, DataW.held.injEq] at r2
    rw [h3, r2.1] at r1
    exact ⟨rfl, r1⟩
  | some e =>
    right
    rw [hf] at h3
    obtain ⟨mo, mc, k1, k2⟩ := h4 e hf
    rw [k1] at r2
    simp only [asIs, Option.some.injEq, Prod.mk.injEq, DataW.held.injEq] at r2
    rw [h3, r2.1] at r1
    exact ⟨e, mo, mc, rfl, k2, r1⟩
theorem PMap.look {w : World} {q c : Nat} {f : Int → Int → Option Int} (h : PMap w q c f) {x y : Int} (hx : wf64 x) (hy : wf64 y) :
    (Instr.lookup 57 (.map (some q)) (rq x y) true).run Try.prog w = .ok (.tuple #[.int .i64 ((f x y).getD 0), .bool (f x y).isSome]) w := by
  obtain ⟨M, h1, h2⟩ := h
  obtain ⟨h3, h4⟩ := h2 x y hx hy
  obtain ⟨v, ps, r1, r2⟩ := h1.look_ok keyedRq Try.underlying57 (zeroI w) rfl (kq_at hx hy)
  rw [h4] at r2
  simp only [asIs, Option.some.injEq, Prod.mk.injEq, DataW.held.injEq] at r2
  rw [h3, r2.1] at r1
  exact r1
theorem HMap.look {w : World} {q c : Nat} {f : Int → Option (Int × Int)} (h : HMap w q c f) {x : Int} (hx : wf64 x) :
    (Instr.lookup 58 (.map (some q)) (.int .i64 x) true).run Try.prog w = .ok (.tuple #[rq ((f x).getD (0, 0)).1 ((f x).getD (0, 0)).2, .bool (f x).isSome]) w := by
  obtain ⟨M, h1, h2⟩ := h
  obtain ⟨h3, h4⟩ := h2 x hx
  obtain ⟨v, ps, r1, r2⟩ := h1.look_ok keyedI Try.underlying58 (zeroR w) rfl (keyOf_int_mk Try.underlying3 hx)
  rw [h4] at r2
  simp only [asIs, Option.some.injEq, Prod.mk.injEq, DataW.held.injEq] at r2
  rw [h3, r2.1] at r1
  exact r1
theorem CMap.store {A w : World} {q c : Nat} {f : Int → Int → Option En} (h : CMap A w q c f) {x y : Int} (hx : wf64 x) (hy : wf64 y) {e : En} {mo : Option Addr} (mc : Nat) (he : EnA A e mo) (hc : c < 1000000000) :
    ∃ w', (Instr.mapUpdate 56 (.map (some q)) (rq x y) (ev e mo mc)).run Try.prog w = .ok () w' ∧ CMap A w' q (c + 1) (upd2 f x y e) ∧ w.grownBy w' (some q) := by
  obtain ⟨M, h1, h2⟩ := h
  obtain ⟨w', r1, r2, r3⟩ := h1.update keyedRq Try.underlying56 (by unfold maxLen; omega) (kq_at hx hy) (val := ev e mo mc) (d := .held (ev e mo mc)) (ps := []) rfl
  have hm := h1.isMap
  refine ⟨w', r1, ⟨_, r2, fun x' y' hx' hy' => ?_⟩, r3⟩
  unfold upd2
  by_cases hk : x' = x ∧ y' = y
  · obtain ⟨rfl, rfl⟩ := hk
    rw [if_pos ⟨rfl, rfl⟩]
    refine ⟨has_put_same hm (kq_key _ _) _, fun e' he' => ?_⟩
    cases he'
    exact ⟨mo, mc, atKey_put_same hm (kq_key _ _) _ _, he⟩
  · rw [if_neg hk]
    have hne : kq x' y' ≠ kq x y := fun x => hk (kq_inj hx' hy' hx hy x)
    refine ⟨(has_put_other hne _).trans (h2 x' y' hx' hy').1, fun e' he' => ?_⟩
    obtain ⟨mo', mc', k1, k2⟩ := (h2 x' y' hx' hy').2 e' he'
    exact ⟨mo', mc', (atKey_put_other hne _ _).trans k1, k2⟩
theorem PMap.store {w : World} {q c : Nat} {f : Int → Int → Option Int} (h : PMap w q c f) {x y v : Int} (hx : wf64 x) (hy : wf64 y) (hc : c < 1000000000) :
    ∃ w', (Instr.mapUpdate 57 (.map (some q)) (rq x y) (.int .i64 v)).run Try.prog w = .ok () w' ∧ PMap w' q (c + 1) (upd2 f x y v) ∧ w.grownBy w' (some q) := by
  obtain ⟨M, h1, h2⟩ := h
  obtain ⟨w', r1, r2, r3⟩ := h1.update keyedRq Try.underlying57 (by unfold maxLen; omega) (kq_at hx hy) (val := .int .i64 v) (d := .held (.int .i64 v)) (ps := []) rfl
  have hm := h1.isMap
  refine ⟨w', r1, ⟨_, r2, fun x' y' hx' hy' => ?_⟩, r3⟩
  unfold upd2
  by_cases hk : x' = x ∧ y' = y
  · obtain ⟨rfl, rfl⟩ := hk
    rw [if_pos ⟨rfl, rfl⟩]
    exact ⟨has_put_same hm (kq_key _ _) _, atKey_put_same hm (kq_key _ _) _ _⟩
  · rw [if_neg hk]
    have hne : kq x' y' ≠ kq x y := fun x => hk (kq_inj hx' hy' hx hy x)
    exact ⟨(has_put_other hne _).trans (h2 x' y' hx' hy').1, (atKey_put_other hne _ _).trans (h2 x' y' hx' hy').2⟩
theorem HMap.store {w : World} {q c : Nat} {f : Int → Option (Int × Int)} (h : HMap w q c f) {x a b : Int} (hx : wf64 x) (hc : c < 1000000000) :
    ∃ w', (Instr.mapUpdate 58 (.map (some q)) (.int .i64 x) (rq a b)).run Try.prog w = .ok () w' ∧ HMap w' q (c + 1) (upd1 f x (a, b)) ∧ w.grownBy w' (some q) := by
  obtain ⟨M, h1, h2⟩ := h
  obtain ⟨w', r1, r2, r3⟩ := h1.update keyedI Try.underlying58 (by unfold maxLen; omega) (keyOf_int_mk Try.underlying3 hx) (val := rq a b) (d := .held (rq a b)) (ps := []) rfl
  have hm := h1.isMap
  refine ⟨w', r1, ⟨_, r2, fun x' hx' => ?_⟩, r3⟩
  unfold upd1
  by_cases hk : x' = x
  · subst hk
    rw [if_pos rfl]
    exact ⟨has_put_same hm (by simp [WideAt.IsKeyLit]) _, atKey_put_same hm (by simp [WideAt.IsKeyLit]) _ _⟩
  · rw [if_neg hk]
    have hne : (Lit.int .i64 x' : Lit) ≠ .int .i64 x := by simpa using hk
    exact ⟨(has_put_other hne _).trans (h2 x' hx').1, (atKey_put_other hne _ _).trans (h2 x' hx').2⟩

/-- what is known, at block p, its maps at a, b, d; all of it newer than A. -/
structure KnA (A w : World) (p a b d c : Nat) (S : Kn) : Prop where
  box : w.heap[p]? = some (.cells #[.map (some a), .map (some b), .map (some d)] 60 (0, 0))
  calls : CMap A w a c S.calls
  place : PMap w b c S.place
  holder : HMap w d c S.holder
  far : A.heap.size ≤ p ∧ A.heap.size ≤ a ∧ A.heap.size ≤ b ∧ A.heap.size ≤ d ∧ a ≠ b ∧ a ≠ d ∧ b ≠ d
theorem KnA.below {A w w' : World} {p a b d c : Nat} {S : Kn} (h : KnA A w p a b d c S) (hb : Below w.heap.size w w') : KnA A w' p a b d c S := by
  obtain ⟨h1, ⟨M1, m1, n1⟩, ⟨M2, m2, n2⟩, ⟨M3, m3, n3⟩, h5⟩ := h
  exact ⟨Below.stay hb h1, ⟨M1, owns_stay m1 (hb.block a m1.lt), n1⟩, ⟨M2, owns_stay m2 (hb.block b m2.lt), n2⟩, ⟨M3, owns_stay m3 (hb.block d m3.lt), n3⟩, h5⟩
theorem KnA.mono {A w : World} {p a b d c c' : Nat} {S : Kn} (h : KnA A w p a b d c S) (hc : c ≤ c') : KnA A w p a b d c' S := ⟨h.box, h.calls.mono hc, h.place.mono hc, h.holder.mono hc, h.far⟩
theorem KnA.ne {A w : World} {p a b d c : Nat} {S : Kn} (h : KnA A w p a b d c S) : p ≠ a ∧ p ≠ b ∧ p ≠ d := by
  obtain ⟨h1, ⟨M1, m1, n1⟩, ⟨M2, m2, n2⟩, ⟨M3, m3, n3⟩, h5⟩ := h
  refine ⟨fun e => ?_, fun e => ?_, fun e => ?_⟩
  · obtain ⟨es, cl, hh⟩ := owns_obj m1; rw [← e, h1] at hh; cases hh
  · obtain ⟨es, cl, hh⟩ := owns_obj m2; rw [← e, h1] at hh; cases hh
  · obtain ⟨es, cl, hh⟩ := owns_obj m3; rw [← e, h1] at hh; cases hh
end Go.Proofs.Ytndpkpkijfplaaa
