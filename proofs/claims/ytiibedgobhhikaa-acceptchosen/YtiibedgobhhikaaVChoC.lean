/- Some acceptors: a ballot is prepared, an entry accepted, at one of them. -/
import Derived.Test.YtiibedgobhhikaaVChoB
import Derived.Test.YtiibedgobhhikaaVStep
namespace Go.Proofs.Ytiibedgobhhikaa
open Go.RowKit Go.Maps

/-- all that is kept between the rounds. -/
def Ch (w0 w : World) (N c : Nat) (av : Value) (pl : List Nat) (qs : Nat → Nat) (P : Nat → Int) (v : Nat → Option (Int × Int)) : Prop :=
  pl.length = N ∧ Pr w0.heap.size w av pl ∧ (∃ Ds, As w0.heap.size w N c (fun i => pl.getD i 0) qs P v Ds) ∧ Below w0.heap.size w0 w
section
variable {w0 w w' : World} {N c c' : Nat} {av : Value} {pl : List Nat} {qs : Nat → Nat} {P P' : Nat → Int} {v v' : Nat → Option (Int × Int)}
theorem Ch.below (h : Ch w0 w N c av pl qs P v) (hb : Below w.heap.size w w') : Ch w0 w' N c av pl qs P v := by
  obtain ⟨h1, h2, ⟨Ds, h3⟩, h4⟩ := h
  exact ⟨h1, h2.below hb, ⟨Ds, h3.below hb⟩, below_far h4 hb⟩
theorem Ch.mono (h : Ch w0 w N c av pl qs P v) (hc : c ≤ c') : Ch w0 w N c' av pl qs P v := by
  obtain ⟨h1, h2, ⟨Ds, h3⟩, h4⟩ := h
  exact ⟨h1, h2, ⟨Ds, h3.mono hc⟩, h4⟩
theorem Ch.congr (h : Ch w0 w N c av pl qs P v) (hP : ∀ i, i < N → P i = P' i) (hv : ∀ i, i < N → v i = v' i) : Ch w0 w N c av pl qs P' v' := by
  obtain ⟨h1, h2, ⟨Ds, h3⟩, h4⟩ := h
  exact ⟨h1, h2, ⟨Ds, fun i hi => by rw [← hP i hi, ← hv i hi]; exact h3.ac i hi, h3.ap, h3.lo⟩, h4⟩
/-- blocks of votes do not touch it. -/
theorem Ch.grown {T : TypeId} {row : Option Nat} (h : Ch w0 w N c av pl qs P v) (hg : w.grownBy w' row) (hT : ∀ k, row = some k → w0.heap.size ≤ k ∧ ∃ cur fr, w.heap[k]? = some (.cells cur T fr)) (h1 : T ≠ 66) (h2 : T ≠ 3) (h3 : T ≠ 24) : Ch w0 w' N c av pl qs P v := by
  obtain ⟨k1, k2, ⟨Ds, k3⟩, k4⟩ := h
  have hk := Kp.of_grown hg
  refine ⟨k1, k2.far hk (low := 0) (ts := [24]) (fun k hr _ => ⟨Nat.zero_le _, fun cur e fr hc => ?_⟩) (by simp), ⟨Ds, k3.kpT hk (fun k hr _ => (hT k hr).2) h1 h2⟩, k4.grown hg k4.size (fun k hr => (hT k hr).1)⟩
  obtain ⟨cur', fr', hc'⟩ := (hT k hr).2
  rw [hc] at hc'; cases hc'
  simpa using h3
theorem Ch.called (h : Ch w0 w N c av pl qs P v) {i : Nat} (hi : i < N) (hk : Kp (foot (pl.getD i 0) (qs i)) w w') (hc : c ≤ c') {Ds : Nat → Nat → Prop} (has : As w0.heap.size w N c (fun i => pl.getD i 0) qs P v Ds) {b : Int} {o : Option (Int × Int)} (a : Ac (News (Ds i) w w') w' (pl.getD i 0) (qs i) b (fOf o) c') : Ch w0 w' N c' av pl qs (upN P i b) (upN v i o) := by
  obtain ⟨k1, k2, _, k4⟩ := h
  have hlo := has.lo i hi
  refine ⟨k1, k2.far hk (low := 0) (ts := [24]) ((has.ac i hi).far (Nat.zero_le _) (Nat.zero_le _) (by decide)) (by simp), ⟨_, has.turn hi hc a hk⟩, k4.trans (hk.below (fun k x => ?_) k4.size)⟩
  rcases x with rfl | rfl
  · exact hlo.1
  · exact hlo.2
theorem Ac.monoD {D E : Nat → Prop} {w : World} {p q : Nat} {P : Int} {f : Vf} {c : Nat} (h : Ac D w p q P f c) (hd : ∀ k, D k → E k) (hl : ∀ k, E k → k < w.heap.size) : Ac E w p q P f c :=
  ⟨h.box, h.map.mono hd (Nat.le_refl _), ⟨hd _ h.own.1, hd _ h.own.2⟩, hl⟩
theorem toldOf_fOf (o : Option (Int × Int)) : toldOf (fOf o) 1 = rowOf o := by rw [toldOf_one, all_fOf]
/-- one of them is asked to promise. -/
theorem Ch.prepare (h : Ch w0 w N c av pl qs P v) {i : Nat} (hi : i < N) (b : Int) (hb : 1 ≤ b) :
    (P i ≤ b ∧ Calls Try.prog 14 #[.pointer (some ⟨pl.getD i 0, 0, none⟩), .int .i64 b, .int .i64 1] w fun x w' => ∃ rv, x = .returned (.tuple #[rv, .int .i64 0]) ∧ VRow 54 0 w.heap.size w' rv (rowOf (v i)) ∧ Ch w0 w' N c av pl qs (upN P i b) v ∧ ∃ q, Far 0 [3, 54] w (foot (pl.getD i 0) q) ∧ Kp (foot (pl.getD i 0) q) w w') ∨
    (¬ P i ≤ b ∧ Calls Try.prog 14 #[.pointer (some ⟨pl.getD i 0, 0, none⟩), .int .i64 b, .int .i64 1] w fun x w' => x = .returned (.tuple #[.slice none 0 0, .int .i64 19]) ∧ Below w.heap.size w w') := by
  have h0 := h
  obtain ⟨k1, k2, ⟨Ds, has⟩, k4⟩ := h
  by_cases hP : P i ≤ b
  · left
    refine ⟨hP, ?_⟩
    have hno : noOf (P i) b false = 0 := by unfold noOf; rw [if_neg (by simp; omega), if_neg (by omega)]
    refine (prepare_ok w b 1 (has.ac i hi) hno).mono ?_
    rintro x w' ⟨rv, rfl, r, a, kp⟩
    rw [toldOf_fOf] at r
    have kp2 : Kp (foot (pl.getD i 0) (qs i)) w w' := kp.mono (fun j _ x => Or.inl x)
    refine ⟨rv, rfl, r, ?_, qs i, (has.ac i hi).far (Nat.zero_le _) (Nat.zero_le _) (by decide), kp2⟩
    have a' : Ac (News (Ds i) w w') w' (pl.getD i 0) (qs i) b (fOf (v i)) c := a.monoD (fun k x => Or.inl x) (fun k x => by
      rcases x with x | x
      · exact a.lt k x
      · exact x.2)
    refine (h0.called hi kp2 (Nat.le_refl _) has a').congr (fun _ _ => rfl) (fun j _ => ?_)
    by_cases e : j = i
    · rw [e, upN_same]
    · rw [upN_other _ _ e]
  · right
    refine ⟨hP, ?_⟩
    have hno : noOf (P i) b false = 19 := by unfold noOf; rw [if_neg (by simp; omega), if_pos (by omega)]
    have := prepare_no w b 1 (has.ac i hi) (by rw [hno]; decide)
    rw [hno] at this; exact this
/-- one of them is asked to accept. -/
theorem Ch.accept (h : Ch w0 w N c av pl qs P v) {i : Nat} (hi : i < N) (b : Int) (hb : 1 ≤ b) (X : Int) (mo : Option Addr) (mc : Nat) (hc : c < 1000000) :
    (P i ≤ b ∧ Calls Try.prog 12 #[.pointer (some ⟨pl.getD i 0, 0, none⟩), .int .i64 b, .int .i64 1, .agg #[.int .i64 1, .int .i64 1, .int .i64 X, .string ⟨#[]⟩, .slice mo 0 mc, .int .i64 0]] w fun x w' => x = .returned (.int .i64 0) ∧ Ch w0 w' N (c + 1) av pl qs (upN P i b) (upN v i (some (b, X))) ∧ ∃ q, Far 0 [3, 54, 32] w (foot (pl.getD i 0) q) ∧ Kp (foot (pl.getD i 0) q) w w') ∨
    (¬ P i ≤ b ∧ Calls Try.prog 12 #[.pointer (some ⟨pl.getD i 0, 0, none⟩), .int .i64 b, .int .i64 1, .agg #[.int .i64 1, .int .i64 1, .int .i64 X, .string ⟨#[]⟩, .slice mo 0 mc, .int .i64 0]] w fun x w' => x = .returned (.int .i64 19) ∧ Below w.heap.size w w') := by
  have h0 := h
  obtain ⟨k1, k2, ⟨Ds, has⟩, k4⟩ := h
  by_cases hP : P i ≤ b
  · left
    refine ⟨hP, ?_⟩
    have hno : noOf (P i) b (decide ((1 : Int) < 1 ∨ (64 : Int) < 1)) = 0 := by unfold noOf; rw [if_neg (by simp; omega), if_neg (by omega)]
    refine (accept_ok w b 1 (entS X) mo mc (has.ac i hi) (InF.nil _ _ _) (by simp [entS]) hc hno).mono ?_
    rintro x w' ⟨rfl, a, kp⟩
    rw [fOf_put] at a
    exact ⟨rfl, h0.called hi kp (Nat.le_succ _) has a, qs i, (has.ac i hi).far (Nat.zero_le _) (Nat.zero_le _) (by decide), kp⟩
  · right
    refine ⟨hP, ?_⟩
    have hno : noOf (P i) b (decide ((1 : Int) < 1 ∨ (64 : Int) < 1)) = 19 := by unfold noOf; rw [if_neg (by simp; omega), if_pos (by omega)]
    have := accept_no w b 1 (entS X) mo mc (has.ac i hi) (by rw [hno]; decide)
    rw [hno] at this; exact this
end
/-- a bit of a number, as Go's x>>i&1 == 1 tells it. -/
def bitI (x : Int) (i : Nat) : Bool := bits BinOp.and IntKind.i64 (x / 2 ^ i) 1 == 1
/-- a part is done. -/
def mix {α : Type} (f g : Nat → α) (i : Nat) (j : Nat) : α := if j < i then f j else g j
theorem mix_step {α : Type} (f g : Nat → α) (i : Nat) (x : α) (hx : x = f i) (j : Nat) : upN (mix f g i) i x j = mix f g (i + 1) j := by
  unfold upN mix
  by_cases e : j = i
  · subst e; rw [if_pos rfl, if_pos (by omega), hx]
  · rw [if_neg e]
    by_cases h : j < i
    · rw [if_pos h, if_pos (by omega)]
    · rw [if_neg h, if_neg (by omega)]
theorem mix_skip {α : Type} (f g : Nat → α) (i : Nat) (hx : f i = g i) (j : Nat) : mix f g i j = mix f g (i + 1) j := by
  unfold mix
  by_cases e : j = i
  · subst e; rw [if_neg (by omega), if_pos (by omega), hx]
  · by_cases h : j < i
    · rw [if_pos h, if_pos (by omega)]
    · rw [if_neg h, if_neg (by omega)]
theorem mix_zero {α : Type} (f g : Nat → α) (j : Nat) : mix f g 0 j = g j := if_neg (by omega)
theorem mix_all {α : Type} (f g : Nat → α) {N j : Nat} (h : j < N) : mix f g N j = f j := if_pos h
theorem mix_at {α : Type} (f g : Nat → α) (i : Nat) : mix f g i i = g i := if_neg (by omega)
end Go.Proofs.Ytiibedgobhhikaa
