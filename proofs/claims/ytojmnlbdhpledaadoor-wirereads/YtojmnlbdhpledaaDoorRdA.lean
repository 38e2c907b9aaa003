/- What both parsers make of any bytes, in one form. -/
import Derived.Test.YtojmnlbdhpledaaDoorXR7
import Derived.Test.YtojmnlbdhpledaaDoorWrote
import Derived.Test.YtojmnlbdhpledaaDoorEntA
namespace Go.Proofs.YtojmnlbdhpledaaDoor
open Go.RowKit

theorem map_self {α β : Type} {f g : α → β} : ∀ (l : List α), (∀ x ∈ l, f x = g x) → l.map f = l.map g
  | [], _ => rfl
  | x :: l, h => by rw [List.map_cons, List.map_cons, h x (by simp), map_self l fun y hy => h y (by simp [hy])]
theorem map_id_mem {α : Type} {f : α → α} : ∀ (l : List α), l = l.map f → ∀ x ∈ l, x = f x
  | [], _, x, hx => by simp at hx
  | y :: l, h, x, hx => by
    rw [List.map_cons, List.cons.injEq] at h
    rcases List.mem_cons.1 hx with rfl | hx
    · exact h.1
    · exact map_id_mem l h.2 x hx
/-- what ParseMsg takes, as a message that may be written. -/
theorem msg_taken {bs : List Nat} (hb : ∀ x ∈ bs, x < 256) (h : (rend bs.length (rmsg bs (0, 0)).2).2 = 0) :
    (rmsg bs (0, 0)).1.mg.ok ∧ (rmsg bs (0, 0)).1.mg.put ([], 0) = (bs, 0) ∧ (rmsg bs (0, 0)).1.ents = (rmsg bs (0, 0)).1.mg.es.map fun e => ⟨e.kind, e.client, e.seq, bytesOf e.text, e.ms, e.«to»⟩ := by
  obtain ⟨h1, h2⟩ := msg_wrote hb h
  refine ⟨h1, h2, ?_⟩
  obtain ⟨X, hX⟩ : ∃ X, (rmsg bs (0, 0)).1.mg = X := ⟨_, rfl⟩
  have hbs : X.bytes = bs := by
    have := put_ok h1 []
    rw [h2, hX] at this
    simpa using (congrArg Prod.fst this).symm
  obtain ⟨k1, -⟩ := whole_told (msgR_reads h1)
  rw [hX, hbs] at k1
  have k2 : (rmsg bs (0, 0)).1 = X.mes := congrArg Prod.fst k1
  rw [hX, k2]
  have k3 : X = X.mes.mg := by rw [← k2, hX]
  have k4 : X.es = X.es.map fun e => e.ent.en := by
    have := congrArg Mg.es k3
    rw [show X.mes.mg.es = (X.es.map En.ent).map Ent.en from rfl, List.map_map] at this
    exact this
  show X.es.map En.ent = _
  refine map_self _ fun e he => ?_
  have k5 := map_id_mem _ k4 e he
  have e2 : e.client = fix e.client := congrArg En.client k5
  have e3 : e.seq = fix e.seq := congrArg En.seq k5
  have e4 : e.ms = e.ms.map fix := congrArg En.ms k5
  show (⟨e.kind, fix e.client, fix e.seq, bytesOf e.text, e.ms.map fix, e.«to»⟩ : Ent) = _
  rw [← e2, ← e3, ← e4]

def zeroM : Mg := ⟨0, 0, 0, 0, 0, 0, 0, 0, false, [], [], [], []⟩
def rdM (bs : List Nat) : Mg := if (rend bs.length (rmsg bs (0, 0)).2).2 = 0 then (rmsg bs (0, 0)).1.mg else zeroM
def erM (bs : List Nat) : Nat := (rend bs.length (rmsg bs (0, 0)).2).2
def rdE (bs : List Nat) : Ent := if (rend bs.length (rentry bs (0, 0)).2).2 = 0 then (rentry bs (0, 0)).1 else ⟨0, 0, 0, [], [], 0⟩
def erE (bs : List Nat) : Nat := (rend bs.length (rentry bs (0, 0)).2).2
def rdC (bs : List Nat) : List Int × List Int := if (rend bs.length (rconfig bs (0, 0)).2).2 = 0 then (rconfig bs (0, 0)).1 else ([], [])
def erC (bs : List Nat) : Nat := (rend bs.length (rconfig bs (0, 0)).2).2
theorem rlist_len (bs : List Nat) (q : Nat) (s : Nat × Nat) : (rlist bs q s).1.length ≤ 64 := by unfold rlist; rw [rlistN_len]; exact rrule_le bs q s
theorem rdE_len (bs : List Nat) : (rdE bs).members.length ≤ 64 := by
  unfold rdE
  split
  · simp only [rentry]; exact rlist_len _ _ _
  · simp
theorem rdC_len (bs : List Nat) : (rdC bs).1.length ≤ 64 ∧ (rdC bs).2.length ≤ 64 := by
  unfold rdC
  split
  · simp only [rconfig]; exact ⟨rlist_len _ _ _, rlist_len _ _ _⟩
  · simp
theorem rdM_ok {bs : List Nat} (hb : ∀ x ∈ bs, x < 256) (h : erM bs = 0) : (rdM bs).put ([], 0) = (bs, 0) := by
  unfold erM at h; unfold rdM; rw [if_pos h]; exact (msg_wrote hb h).2
theorem IntsR.nil (w : World) (ao : Option Addr) : IntsR w ao [] := fun i hi => by simp at hi
theorem EntsAt.nil (w : World) (ao : Option Addr) : EntsAt w ao [] := fun i hi => by simp at hi
/-- what a parse of a message answers, in one form. -/
def MsgOut (bs : List Nat) (w : World) (e : Ending) (w' : World) : Prop :=
  ∃ aot aoe aoo aon ct ce co cn, e = .returned (.tuple #[.agg #[.int .i64 (rdM bs).src, .int .i64 (rdM bs).to, .int .i64 (rdM bs).gen, .int .i64 (rdM bs).kind, .int .i64 (rdM bs).term, .int .i64 (rdM bs).index, .int .i64 (rdM bs).last, .int .i64 (rdM bs).commit, .bool (rdM bs).yes, .slice aot (rdM bs).terms.length ct, .slice aoe (rdM bs).es.length ce, .slice aoo (rdM bs).old.length co, .slice aon (rdM bs).new.length cn], .int .i64 ((erM bs : Nat) : Int)]) ∧ IntsR w' aot (rdM bs).terms ∧ EntsAt w' aoe (rdM bs).es ∧ IntsR w' aoo (rdM bs).old ∧ IntsR w' aon (rdM bs).new ∧ (rdM bs).es.length ≤ maxLen ∧ Below w.heap.size w w'
def EntOut (bs : List Nat) (w : World) (e : Ending) (w' : World) : Prop :=
  ∃ ao cap, e = .returned (.tuple #[.agg #[.int .i64 (rdE bs).kind, .int .i64 (rdE bs).client, .int .i64 (rdE bs).seq, .string (str (rdE bs).data), .slice ao (rdE bs).members.length cap, .int .i64 (rdE bs).to'], .int .i64 ((erE bs : Nat) : Int)]) ∧ IntsR w' ao (rdE bs).members ∧ Below w.heap.size w w'
def ConfOut (bs : List Nat) (w : World) (e : Ending) (w' : World) : Prop :=
  ∃ ao an co cn, e = .returned (.tuple #[.agg #[.slice ao (rdC bs).1.length co, .slice an (rdC bs).2.length cn], .int .i64 ((erC bs : Nat) : Int)]) ∧ IntsR w' ao (rdC bs).1 ∧ IntsR w' an (rdC bs).2 ∧ Below w.heap.size w w'
theorem msg_out {bs : List Nat} {n : Nat} {w w' : World} {e : Ending} (hn : bs.length = n) (hb : ∀ x ∈ bs, x < 256)
    (h : ∃ cs, e = .returned (.tuple #[.agg cs, .int .i64 (((rend n (rmsg bs (0, 0)).2).2 : Nat) : Int)]) ∧ Below w.heap.size w w' ∧
      ((rend n (rmsg bs (0, 0)).2).2 = 0 → MsgIs w.heap.size w' cs (rmsg bs (0, 0)).1) ∧
      ((rend n (rmsg bs (0, 0)).2).2 ≠ 0 → cs = #[.int .i64 0, .int .i64 0, .int .i64 0, .int .i64 0, .int .i64 0, .int .i64 0, .int .i64 0, .int .i64 0, .bool false, .slice none 0 0, .slice none 0 0, .slice none 0 0, .slice none 0 0])) : MsgOut bs w e w' := by
  subst hn
  obtain ⟨cs, rfl, hbl, h1, h2⟩ := h
  by_cases hz : (rend bs.length (rmsg bs (0, 0)).2).2 = 0
  · have hd : rdM bs = (rmsg bs (0, 0)).1.mg := by unfold rdM; rw [if_pos hz]
    obtain ⟨t1, -, t3⟩ := msg_taken hb hz
    obtain ⟨v1, v2, v3, v4, vs, rfl, r1, r2, r3, r4, r5⟩ := h1 hz
    rw [t3] at r2 r3
    obtain ⟨aot, ct, rfl, i1⟩ := row_ints r1
    obtain ⟨aoe, ce, rfl, i2⟩ := ents_read t1.eachE r2 r3
    obtain ⟨aoo, co, rfl, i3⟩ := row_ints r4
    obtain ⟨aon, cn, rfl, i4⟩ := row_ints r5
    have hl := (refuse_range t1.es).2
    unfold MsgOut erM
    rw [hd]
    clear hd h1 h2 t1 t3 hz r1 r2 r3 r4 r5
    generalize rmsg bs (0, 0) = R at *
    obtain ⟨⟨x0, x1, x2, x3, x4, x5, x6, x7, x8, x9, x10, x11, x12⟩, sx⟩ := R
    exact ⟨aot, aoe, aoo, aon, ct, ce, co, cn, rfl, i1, i2, i3, i4, by unfold maxLen; omega, hbl⟩
  · have hd : rdM bs = zeroM := by unfold rdM; rw [if_neg hz]
    obtain rfl := h2 hz
    unfold MsgOut erM
    rw [hd]
    clear hd h1 h2
    generalize rmsg bs (0, 0) = R at *
    exact ⟨none, none, none, none, 0, 0, 0, 0, rfl, IntsR.nil _ _, EntsAt.nil _ _, IntsR.nil _ _, IntsR.nil _ _, by decide, hbl⟩
theorem ent_out {bs : List Nat} {n : Nat} {w w' : World} {e : Ending} (hn : bs.length = n)
    (h : ∃ cs, e = .returned (.tuple #[.agg cs, .int .i64 (((rend n (rentry bs (0, 0)).2).2 : Nat) : Int)]) ∧ Below w.heap.size w w' ∧
      ((rend n (rentry bs (0, 0)).2).2 = 0 → EntIs w.heap.size w' cs (rentry bs (0, 0)).1) ∧
      ((rend n (rentry bs (0, 0)).2).2 ≠ 0 → cs = #[.int .i64 0, .int .i64 0, .int .i64 0, .string ⟨#[]⟩, .slice none 0 0, .int .i64 0])) : EntOut bs w e w' := by
  subst hn
  obtain ⟨cs, rfl, hbl, h1, h2⟩ := h
  by_cases hz : (rend bs.length (rentry bs (0, 0)).2).2 = 0
  · have hd : rdE bs = (rentry bs (0, 0)).1 := by unfold rdE; rw [if_pos hz]
    obtain ⟨v, rfl, r1⟩ := h1 hz
    obtain ⟨ao, cap, rfl, i1⟩ := row_ints r1
    unfold EntOut erE
    rw [hd]
    clear hd h1 h2 hz
    generalize rentry bs (0, 0) = R at *
    exact ⟨ao, cap, rfl, i1, hbl⟩
  · have hd : rdE bs = ⟨0, 0, 0, [], [], 0⟩ := by unfold rdE; rw [if_neg hz]
    obtain rfl := h2 hz
    unfold EntOut erE
    rw [hd]
    clear hd h1 h2
    generalize rentry bs (0, 0) = R at *
    exact ⟨none, 0, rfl, IntsR.nil _ _, hbl⟩
theorem conf_out {bs : List Nat} {n : Nat} {w w' : World} {e : Ending} (hn : bs.length = n)
    (h : ∃ cs, e = .returned (.tuple #[.agg cs, .int .i64 (((rend n (rconfig bs (0, 0)).2).2 : Nat) : Int)]) ∧ Below w.heap.size w w' ∧
      ((rend n (rconfig bs (0, 0)).2).2 = 0 → ConfIs w.heap.size w' cs (rconfig bs (0, 0)).1) ∧
      ((rend n (rconfig bs (0, 0)).2).2 ≠ 0 → cs = #[.slice none 0 0, .slice none 0 0])) : ConfOut bs w e w' := by
  subst hn
  obtain ⟨cs, rfl, hbl, h1, h2⟩ := h
  by_cases hz : (rend bs.length (rconfig bs (0, 0)).2).2 = 0
  · have hd : rdC bs = (rconfig bs (0, 0)).1 := by unfold rdC; rw [if_pos hz]
    obtain ⟨v1, v2, rfl, r1, r2⟩ := h1 hz
    obtain ⟨ao, co, rfl, i1⟩ := row_ints r1
    obtain ⟨an, cn, rfl, i2⟩ := row_ints r2
    unfold ConfOut erC
    rw [hd]
    clear hd h1 h2 hz
    generalize rconfig bs (0, 0) = R at *
    exact ⟨ao, an, co, cn, rfl, i1, i2, hbl⟩
  · have hd : rdC bs = ([], []) := by unfold rdC; rw [if_neg hz]
    obtain rfl := h2 hz
    unfold ConfOut erC
    rw [hd]
    clear hd h1 h2
    generalize rconfig bs (0, 0) = R at *
    exact ⟨none, none, 0, 0, rfl, IntsR.nil _ _, IntsR.nil _ _, hbl⟩
section
variable {ao : Option Addr} {n cap : Nat} {bs : List Nat} {w : World}
theorem pm_any (hg : Given w ao n cap bs) (hS : Start w) : Calls Tryd.prog 22 #[.slice ao n cap] w fun e w' => MsgOut bs w e w' :=
  (parseMsg_any ao n cap bs w hg hS).mono fun _ _ h => msg_out hg.len hg.are.1 h
theorem xpm_any (hg : Given w ao n cap bs) : Calls Tryd.prog 25 #[.slice ao n cap] w fun e w' => MsgOut bs w e w' :=
  (xpParseMsg_any ao n cap bs w hg).mono fun _ _ h => msg_out hg.len hg.are.1 h
theorem pe_any (hg : Given w ao n cap bs) (hS : Start w) : Calls Tryd.prog 13 #[.slice ao n cap] w fun e w' => EntOut bs w e w' :=
  (parseEntry_any ao n cap bs w hg hS).mono fun _ _ h => ent_out hg.len h
theorem xpe_any (hg : Given w ao n cap bs) : Calls Tryd.prog 26 #[.slice ao n cap] w fun e w' => EntOut bs w e w' :=
  (xpParseEntry_any ao n cap bs w hg).mono fun _ _ h => ent_out hg.len h
theorem pc_any (hg : Given w ao n cap bs) (hS : Start w) : Calls Tryd.prog 27 #[.slice ao n cap] w fun e w' => ConfOut bs w e w' :=
  (parseConfig_any ao n cap bs w hg hS).mono fun _ _ h => conf_out hg.len h
theorem xpc_any (hg : Given w ao n cap bs) : Calls Tryd.prog 28 #[.slice ao n cap] w fun e w' => ConfOut bs w e w' :=
  (xpParseConfig_any ao n cap bs w hg).mono fun _ _ h => conf_out hg.len h
end
end Go.Proofs.YtojmnlbdhpledaaDoor
