/- What wire's reader makes of bytes that were written: plain functions. wire's reader: end; wire.ParseEntry: contracts. What is written is read as it was; cut off anywhere it is told as cut: entries, configurations, messages, plainly. wire.parse of an entry, of a configuration, of a message: contracts. -/
import Derived.Test.YtjplhiflemmkfaaGreatDoorReaderE
import Derived.Test.YtjplhiflemmkfaaGreatDoorWriterM
import Derived.Deep.RegionWith
namespace Go.Proofs.YtjplhiflemmkfaaGreatDoor
open Go.RowKit

/-- a reader's function: of all bytes, the place and the first flaw. -/
abbrev RF (α : Type) := List Nat → (Nat × Nat) → α × (Nat × Nat)
def bindR {α β : Type} (R : RF α) (F : α → RF β) : RF β := fun bs s => F (R bs s).1 bs (R bs s).2
def retR {α : Type} (v : α) : RF α := fun _ s => (v, s)
/-- a flaw stays. -/
def Stays {α : Type} (R : RF α) : Prop := ∀ bs s, s.2 ≠ 0 → (R bs s).2.2 = s.2
/-- the bytes c are read as v; each front of them is cut. -/
def Reads {α : Type} (R : RF α) (c : List Nat) (v : α) : Prop :=
  (∀ pre rest, R (pre ++ c ++ rest) (pre.length, 0) = (v, (pre.length + c.length, 0))) ∧ ∀ pre k, k < c.length → (R (pre ++ c.take k) (pre.length, 0)).2.2 = 8
theorem stays_ret {α : Type} (v : α) : Stays (retR v) := fun _ _ _ => rfl
theorem stays_bind {α β : Type} {R : RF α} {F : α → RF β} (h : Stays R) (hf : ∀ v, Stays (F v)) : Stays (bindR R F) := fun bs s hs => by
  unfold bindR
  have h1 := h bs s hs
  rw [hf _ bs _ (by rw [h1]; exact hs), h1]
theorem reads_ret {α : Type} (v : α) : Reads (retR v) [] v := ⟨fun _ _ => rfl, fun _ k hk => by simp at hk⟩
theorem reads_bind {α β : Type} {R : RF α} {F : α → RF β} {c d : List Nat} {v : α} {u : β} (h : Reads R c v) (hf : Reads (F v) d u) (hs : ∀ v, Stays (F v)) : Reads (bindR R F) (c ++ d) u := by
  refine ⟨fun pre rest => ?_, fun pre k hk => ?_⟩
  · unfold bindR
    rw [show pre ++ (c ++ d) ++ rest = pre ++ c ++ (d ++ rest) by simp, h.1]
    simp only
    rw [show pre ++ c ++ (d ++ rest) = (pre ++ c) ++ d ++ rest by simp, ← List.length_append, hf.1, List.length_append, List.length_append, Nat.add_assoc]
  · unfold bindR
    by_cases hc : k < c.length
    · rw [List.take_append_of_le_length (Nat.le_of_lt hc)]
      have h8 := h.2 pre k hc
      rw [hs _ _ _ (by rw [h8]; decide), h8]
    · rw [List.take_append, List.take_of_length_le (by omega), ← List.append_assoc]
      rw [h.1, ← List.length_append]
      exact hf.2 (pre ++ c) (k - c.length) (by rw [List.length_append] at hk; omega)

theorem taken_at (pre c rest : List Nat) : taken (pre ++ c ++ rest) c.length (pre.length, 0) = c ∧ rtake (pre ++ c ++ rest).length c.length (pre.length, 0) = (pre.length + c.length, 0) := by
  have e : rtake (pre ++ c ++ rest).length c.length (pre.length, 0) = (pre.length + c.length, 0) := by
    unfold rtake
    rw [if_neg (by simp), if_neg (by simp only [List.length_append]; omega)]
  refine ⟨?_, e⟩
  unfold taken
  rw [e, if_pos rfl]
  simp
theorem taken_cut (pre c : List Nat) (k n : Nat) (hk : k < n) (hc : c.length = k) : taken (pre ++ c) n (pre.length, 0) = [] ∧ rtake (pre ++ c).length n (pre.length, 0) = (pre.length, 8) := by
  have e : rtake (pre ++ c).length n (pre.length, 0) = (pre.length, 8) := by
    unfold rtake
    rw [if_neg (by simp), if_pos (by simp only [List.length_append]; omega)]
  refine ⟨?_, e⟩
  unfold taken
  rw [e, if_neg (by simp)]
theorem rtake_stay (n k : Nat) (s : Nat × Nat) (h : s.2 ≠ 0) : rtake n k s = s := by unfold rtake; rw [if_pos h]

/-- take. -/
def takeR (k : Nat) : RF (List Nat) := fun bs s => (taken bs k s, rtake bs.length k s)
theorem takeR_stays (k : Nat) : Stays (takeR k) := fun bs s h => by simp only [takeR, rtake_stay _ _ _ h]
theorem takeR_reads {c : List Nat} {k : Nat} (hk : c.length = k) : Reads (takeR k) c c := by
  subst hk
  refine ⟨fun pre rest => ?_, fun pre k hk => ?_⟩
  · unfold takeR
    rw [(taken_at pre c rest).1, (taken_at pre c rest).2]
  · unfold takeR
    rw [(taken_cut pre (c.take k) k c.length hk (by rw [List.length_take]; omega)).2]
/-- integer. -/
def intR : RF Int := fun bs s => (rint bs s, rtake bs.length 8 s)
theorem intR_bind : intR = bindR (takeR 8) fun c => retR (wrap64 ((joinTo 0 c : Nat) : Int)) := rfl
theorem intR_stays : Stays intR := by rw [intR_bind]; exact stays_bind (takeR_stays 8) fun _ => stays_ret _
theorem num8_join {y : Int} (h1 : -9223372036854775808 ≤ y) (h2 : y < 9223372036854775808) : wrap64 ((joinTo 0 (num8 y) : Nat) : Int) = y := by
  unfold num8
  rw [join_be8 (by omega), Int.toNat_of_nonneg (by omega)]
  unfold wrap64
  omega
theorem intR_reads {y : Int} (h1 : -9223372036854775808 ≤ y) (h2 : y < 9223372036854775808) : Reads intR (num8 y) y := by
  rw [intR_bind]
  have h := reads_bind (F := fun c => retR (wrap64 ((joinTo 0 c : Nat) : Int))) (takeR_reads (num8_len y)) (reads_ret _) (fun _ => stays_ret _)
  rw [List.append_nil, num8_join h1 h2] at h
  exact h
/-- ruled. -/
def ruleR (q : Nat) : RF Nat := fun bs s => rrule bs q s
theorem ruleR_stays (q : Nat) : Stays (ruleR q) := fun bs s h => by
  unfold ruleR rrule
  rw [rtake_stay _ _ _ h]
  split
  · rfl
  · simp only
theorem ruleR_reads {q v : Nat} (h : refuse q v = 0) : Reads (ruleR q) [v] v := by
  refine ⟨fun pre rest => ?_, fun pre k hk => ?_⟩
  · have e := taken_at pre [v] rest
    simp only [List.length_singleton] at e
    unfold ruleR rrule
    rw [e.1, e.2]
    have ej : joinTo 0 [v] = v := by simp [joinTo]
    rw [ej, if_pos h]; rfl
  · have e := taken_cut pre ([v].take k) k 1 hk (by simp at hk; subst hk; rfl)
    unfold ruleR rrule
    rw [e.2]
    split
    · rfl
    · simp
/-- text. -/
theorem text_bind : (fun bs s => rtext bs s) = bindR (ruleR 4) takeR := rfl
def textR : RF (List Nat) := fun bs s => rtext bs s
theorem textR_stays : Stays textR := stays_bind (R := ruleR 4) (F := takeR) (ruleR_stays 4) takeR_stays
theorem textR_reads {c : List Nat} (h : refuse 4 c.length = 0) : Reads textR ([c.length] ++ c) c :=
  reads_bind (R := ruleR 4) (F := takeR) (ruleR_reads h) (takeR_reads rfl) takeR_stays
/-- a loop. -/
def loopR {α : Type} (R : RF α) : Nat → RF (List α)
  | 0 => retR []
  | k + 1 => bindR (loopR R k) fun l => bindR R fun y => retR (l ++ [y])
theorem loopR_stays {α : Type} {R : RF α} (h : Stays R) : ∀ k, Stays (loopR R k)
  | 0 => stays_ret _
  | k + 1 => stays_bind (loopR_stays h k) fun _ => stays_bind h fun _ => stays_ret _
theorem loopR_reads {α : Type} {R : RF α} (hs : Stays R) (cs : List (List Nat)) (ys : List α) (hl : cs.length = ys.length) (h : ∀ (i : Nat) (c : List Nat) (y : α), cs[i]? = some c → ys[i]? = some y → Reads R c y) : Reads (loopR R ys.length) cs.flatten ys := by
  obtain ⟨k, hk⟩ : ∃ k, ys.length = k := ⟨_, rfl⟩
  rw [hk]
  induction k generalizing cs ys with
  | zero =>
    obtain rfl : ys = [] := List.length_eq_zero_iff.1 hk
    obtain rfl : cs = [] := List.length_eq_zero_iff.1 (hl.trans hk)
    exact reads_ret _
  | succ k ih =>
    have hy0 : ys ≠ [] := fun e => by simp [e] at hk
    have hc0 : cs ≠ [] := fun e => by simp [e] at hl; omega
    have ey := List.dropLast_concat_getLast hy0
    have ec := List.dropLast_concat_getLast hc0
    have i1 := ih cs.dropLast ys.dropLast (by simp [hl]) (fun i c y hc hy => by
      have hi : i < ys.dropLast.length := by
        by_cases hi : i < ys.dropLast.length
        · exact hi
        · rw [List.getElem?_eq_none (by omega)] at hy; cases hy
      rw [List.length_dropLast] at hi
      refine h i c y ?_ ?_
      · rw [← hc, List.getElem?_dropLast, if_pos (by omega)]
      · rw [← hy, List.getElem?_dropLast, if_pos hi]) (by simp [hk])
    have i2 := h k (cs.getLast hc0) (ys.getLast hy0) (by rw [List.getLast_eq_getElem, List.getElem?_eq_getElem (by omega)]; simp [hl, hk]) (by rw [List.getLast_eq_getElem, List.getElem?_eq_getElem (by omega)]; simp [hk])
    have i3 := reads_bind (F := fun l => bindR R fun y => retR (l ++ [y])) i1 (reads_bind i2 (reads_ret _) (fun _ => stays_ret _)) (fun _ => stays_bind hs fun _ => stays_ret _)
    rw [ey, List.append_nil] at i3
    rw [show cs.flatten = cs.dropLast.flatten ++ cs.getLast hc0 by conv => lhs; rw [← ec]; rw [List.flatten_append]; simp]
    exact i3
end Go.Proofs.YtjplhiflemmkfaaGreatDoor
namespace Go.Proofs.YtjplhiflemmkfaaGreatDoor
open Go.RowKit

/-- what end does. -/
def rend (n : Nat) (s : Nat × Nat) : Nat × Nat := if s.1 < n then (s.1, if s.2 = 0 then 9 else s.2) else s

set_option maxHeartbeats 1000000 in
theorem rg_end {base : Nat} {wz w : World} {p : Nat} {ao : Option Addr} {n cap : Nat} {bs : List Nat} {s : Nat × Nat} (h : Rg base wz w p ao n cap bs s) :
    Calls Tryz.prog 303 #[.pointer (some ⟨p, 0, none⟩)] w fun e w' => e = .returned (.tuple #[]) ∧ Rg base wz w' p ao n cap bs (rend n s) ∧ Only base [357] w w' := by
  have H := hide h
  have hbase := h.2.2.1
  have hbig := h.2.1.big
  obtain ⟨ev, hp, hbp, herr, hpos⟩ := h.1
  obtain ⟨pos, er⟩ := s
  simp only at hp herr hpos
  have c0 : w.cell? ⟨p, 0, none⟩ = some (.slice ao n cap) := (cell_of_block hp).trans rfl
  have c1 : w.cell? ⟨p, 1, none⟩ = some (.int .i64 (pos : Int)) := (cell_of_block hp).trans rfl
  clear hp herr h
  by_cases hc : pos < n
  · have E1 : Hid (rend n (pos, er) = (pos, if er = 0 then 9 else er)) := by show _ = _; unfold rend; rw [if_pos hc]
    have hci : (pos : Int) < (n : Int) := by omega
    go_enter Tryz.func303, Tryz.ntmps303
    go_wp2_with fail
    go_quiet (fail)
    have c1' : (w.drewN nq).cell? ⟨p, 1, none⟩ = some (.int .i64 (pos : Int)) := c1
    go_wp2_with fail
    refine (fail_any base p ao n cap pos er pos 9 (by decide) (w.drewN nq) ((unhide H).1.below (drewN_below w nq)) hbase).mono ?_
    rintro e w1 ⟨rfl, r1, k1⟩
    have R1 := hide r1
    have K1 := hide k1
    clear r1 k1
    go_wp2
    go_end0
    rw [unhide E1]
    have kk := (Only.of_below (ts := [357]) (drewN_below w nq) hbase).trans (unhide K1)
    exact ⟨rfl, (unhide H).next (unhide R1) kk, kk⟩
  · have E1 : Hid (rend n (pos, er) = (pos, er)) := by show _ = _; unfold rend; rw [if_neg hc]
    have hci : ¬ (pos : Int) < (n : Int) := by omega
    go_enter Tryz.func303, Tryz.ntmps303
    go_wp2_with fail
    go_quiet (fail)
    go_wp2
    go_end0
    rw [unhide E1]
    have kk := Only.of_below (ts := [357]) (drewN_below w nq) hbase
    exact ⟨rfl, (unhide H).next ((unhide H).1.below (drewN_below w nq)) kk, kk⟩

/-- the bytes that are handed to Parse. -/
structure Given (w : World) (ao : Option Addr) (n m : Nat) (bs : List Nat) : Prop where
  len : bs.length = n
  room : n ≤ m
  nul : ao = none → m = 0
  big : n ≤ 1000000000000
  are : Bytes w ao bs
theorem Given.below {w w' : World} {ao : Option Addr} {n m : Nat} {bs : List Nat} (h : Given w ao n m bs) (hb : Below w.heap.size w w') : Given w' ao n m bs := ⟨h.len, h.room, h.nul, h.big, h.are.below hb⟩
theorem Given.src {w w1 : World} {ao : Option Addr} {n m : Nat} {bs : List Nat} (h : Given w ao n m bs) (hb : Below w.heap.size w w1) : Src w.heap.size w1 ao n m bs :=
  ⟨h.len, h.room, h.nul, h.big, fun _ ho => h.are.below (hb.trans ho.below)⟩

end Go.Proofs.YtjplhiflemmkfaaGreatDoor
namespace Go.Proofs.YtjplhiflemmkfaaGreatDoor
open Go.RowKit

/-- a number, written and read. -/
def fix (y : Int) : Int := wrap64 ((joinTo 0 (num8 y) : Nat) : Int)
theorem fix_self {y : Int} (h1 : -9223372036854775808 ≤ y) (h2 : y < 9223372036854775808) : fix y = y := num8_join h1 h2
theorem int_reads (y : Int) : Reads intR (num8 y) (fix y) := by
  rw [intR_bind]
  have h := reads_bind (F := fun c => retR (wrap64 ((joinTo 0 c : Nat) : Int))) (takeR_reads (num8_len y)) (reads_ret _) (fun _ => stays_ret _)
  rw [List.append_nil] at h
  exact h
/-- list. -/
def listR (q : Nat) : RF (List Int) := fun bs s => rlist bs q s
theorem rlistN_loop (bs : List Nat) (k : Nat) (s : Nat × Nat) : rlistN bs k s = loopR intR k bs s := by
  induction k with
  | zero => rfl
  | succ k ih => rw [rlistN, ih]; rfl
theorem listR_bind (q : Nat) : listR q = bindR (ruleR q) (loopR intR) := by
  funext bs s
  unfold listR rlist
  rw [rlistN_loop]; rfl
theorem listR_stays (q : Nat) : Stays (listR q) := by rw [listR_bind]; exact stays_bind (ruleR_stays q) (loopR_stays intR_stays)
theorem listR_reads {q : Nat} {ys : List Int} (h : refuse q ys.length = 0) : Reads (listR q) ([ys.length] ++ nums ys) (ys.map fix) := by
  rw [listR_bind]
  refine reads_bind (ruleR_reads h) ?_ (loopR_stays intR_stays)
  have h1 := loopR_reads intR_stays (ys.map num8) (ys.map fix) (by simp) fun i c y hc hy' => by
    rw [List.getElem?_map] at hc hy'
    cases hh : ys[i]? with
    | none => rw [hh] at hc; cases hc
    | some e =>
      rw [hh] at hc hy'
      obtain rfl := Option.some.inj hc
      obtain rfl := Option.some.inj hy'
      exact int_reads e
  rw [List.length_map] at h1
  exact h1

/-! ### an entry -/
/-- an entry that may be written. -/
structure En.ok (e : En) : Prop where
  kind : refuse 0 e.kind = 0
  text : refuse 4 e.text.size = 0
  ms : refuse 5 e.ms.length = 0
  to : refuse 1 e.to = 0
def En.bytes (e : En) : List Nat := [e.kind.toNat] ++ (num8 e.client ++ (num8 e.seq ++ (([e.text.size] ++ bytesOf e.text) ++ (([e.ms.length] ++ nums e.ms) ++ ([e.to.toNat] ++ [])))))
theorem putE_ok {e : En} (h : e.ok) (bs : List Nat) : putE e (bs, 0) = (bs ++ e.bytes, 0) := by
  have h1 := h.kind
  have h2 := h.text
  have h3 := h.ms
  have h4 := h.to
  simp only [putE, putEntry, putRule, putText, putList, putInts, h1, h2, h3, h4, ne_eq, not_true_eq_false, if_false, and_self, if_true, En.bytes, nums]
  simp
def En.ent (e : En) : Ent := ⟨e.kind, fix e.client, fix e.seq, bytesOf e.text, e.ms.map fix, e.to⟩
def entryR : RF Ent := fun bs s => rentry bs s
theorem entryR_bind : entryR = bindR (ruleR 0) fun k => bindR intR fun c => bindR intR fun q => bindR textR fun d => bindR (listR 5) fun m => bindR (ruleR 1) fun t => retR (⟨(k : Int), c, q, d, m, (t : Int)⟩ : Ent) := rfl
theorem entryR_stays : Stays entryR := by
  rw [entryR_bind]
  exact stays_bind (ruleR_stays 0) fun _ => stays_bind intR_stays fun _ => stays_bind intR_stays fun _ => stays_bind textR_stays fun _ => stays_bind (listR_stays 5) fun _ => stays_bind (ruleR_stays 1) fun _ => stays_ret _
theorem toNat_refuse {q : Nat} {n : Int} (h : refuse q n = 0) : refuse q (n.toNat : Nat) = 0 ∧ ((n.toNat : Nat) : Int) = n := by
  have e : ((n.toNat : Nat) : Int) = n := Int.toNat_of_nonneg (refuse_range h).1
  rw [e]; exact ⟨h, rfl⟩
theorem entryR_reads {e : En} (h : e.ok) : Reads entryR e.bytes e.ent := by
  rw [entryR_bind]
  unfold En.bytes
  have k := toNat_refuse h.kind
  have t := toNat_refuse h.to
  have hl : (bytesOf e.text).length = e.text.size := bytesOf_len _
  refine reads_bind (ruleR_reads k.1) (reads_bind (int_reads e.client) (reads_bind (int_reads e.seq) (reads_bind (v := bytesOf e.text) ?_ (reads_bind (listR_reads h.ms) (reads_bind (ruleR_reads t.1) ?_ fun _ => stays_ret _) ?_) ?_) ?_) ?_) ?_
  · have := textR_reads (c := bytesOf e.text) (by rw [hl]; exact h.text)
    rw [hl] at this; exact this
  · rw [k.2, t.2]; exact reads_ret _
  · exact fun _ => stays_bind (ruleR_stays 1) fun _ => stays_ret _
  · exact fun _ => stays_bind (listR_stays 5) fun _ => stays_bind (ruleR_stays 1) fun _ => stays_ret _
  · exact fun _ => stays_bind textR_stays fun _ => stays_bind (listR_stays 5) fun _ => stays_bind (ruleR_stays 1) fun _ => stays_ret _
  · exact fun _ => stays_bind intR_stays fun _ => stays_bind textR_stays fun _ => stays_bind (listR_stays 5) fun _ => stays_bind (ruleR_stays 1) fun _ => stays_ret _
  · exact fun _ => stays_bind intR_stays fun _ => stays_bind intR_stays fun _ => stays_bind textR_stays fun _ => stays_bind (listR_stays 5) fun _ => stays_bind (ruleR_stays 1) fun _ => stays_ret _

/-! ### entries, a configuration -/
def entriesR : RF (List Ent) := fun bs s => rentries bs s
theorem rentriesN_loop (bs : List Nat) (k : Nat) (s : Nat × Nat) : rentriesN bs k s = loopR entryR k bs s := by
  induction k with
  | zero => rfl
  | succ k ih => rw [rentriesN, ih]; rfl
theorem entriesR_bind : entriesR = bindR (ruleR 6) (loopR entryR) := by
  funext bs s
  unfold entriesR rentries
  rw [rentriesN_loop]; rfl
theorem entriesR_stays : Stays entriesR := by rw [entriesR_bind]; exact stays_bind (ruleR_stays 6) (loopR_stays entryR_stays)
def entsBytes (es : List En) : List Nat := [es.length] ++ (es.map En.bytes).flatten
theorem entriesR_reads {es : List En} (h : refuse 6 es.length = 0) (he : ∀ e ∈ es, e.ok) : Reads entriesR (entsBytes es) (es.map En.ent) := by
  rw [entriesR_bind]
  refine reads_bind (ruleR_reads h) ?_ (loopR_stays entryR_stays)
  have h1 := loopR_reads entryR_stays (es.map En.bytes) (es.map En.ent) (by simp) fun i c y hc hy' => by
    rw [List.getElem?_map] at hc hy'
    cases hh : es[i]? with
    | none => rw [hh] at hc; cases hc
    | some e =>
      rw [hh] at hc hy'
      obtain rfl := Option.some.inj hc
      obtain rfl := Option.some.inj hy'
      exact entryR_reads (he e (List.mem_of_getElem? hh))
  rw [List.length_map] at h1
  exact h1
theorem putEs_ok : ∀ (es : List En) (_ : ∀ e ∈ es, e.ok) (bs : List Nat), putEs es (bs, 0) = (bs ++ (es.map En.bytes).flatten, 0)
  | [], _, bs => by simp [putEs]
  | e :: es, h, bs => by
    show putEs es (putE e (bs, 0)) = _
    rw [putE_ok (h e (by simp)), putEs_ok es (fun x hx => h x (List.mem_cons_of_mem _ hx))]
    simp
theorem putEntries_ok {es : List En} (h : refuse 6 es.length = 0) (he : ∀ e ∈ es, e.ok) (bs : List Nat) : putEntries es (bs, 0) = (bs ++ entsBytes es, 0) := by
  unfold putEntries putRule
  simp only [h, ne_eq, not_true_eq_false, if_false, and_self, if_true]
  rw [putEs_ok es he]
  simp [entsBytes]
def configR : RF (List Int × List Int) := fun bs s => rconfig bs s
theorem configR_bind : configR = bindR (listR 5) fun a => bindR (listR 5) fun b => retR (a, b) := rfl
theorem configR_stays : Stays configR := by rw [configR_bind]; exact stays_bind (listR_stays 5) fun _ => stays_bind (listR_stays 5) fun _ => stays_ret _
def confBytes (xs ys : List Int) : List Nat := ([xs.length] ++ nums xs) ++ (([ys.length] ++ nums ys) ++ [])
theorem configR_reads {xs ys : List Int} (h1 : refuse 5 xs.length = 0) (h2 : refuse 5 ys.length = 0) : Reads configR (confBytes xs ys) (xs.map fix, ys.map fix) := by
  rw [configR_bind]
  exact reads_bind (listR_reads h1) (reads_bind (listR_reads h2) (reads_ret _) fun _ => stays_ret _) fun _ => stays_bind (listR_stays 5) fun _ => stays_ret _
theorem putList_ok {q : Nat} {ys : List Int} (h : refuse q ys.length = 0) (bs : List Nat) : putList q ys (bs, 0) = (bs ++ ([ys.length] ++ nums ys), 0) := by
  unfold putList putRule
  simp [h]
theorem putConfig_ok {xs ys : List Int} (h1 : refuse 5 xs.length = 0) (h2 : refuse 5 ys.length = 0) (bs : List Nat) : putConfig xs ys (bs, 0) = (bs ++ confBytes xs ys, 0) := by
  unfold putConfig
  rw [putList_ok h1, putList_ok h2]
  simp [confBytes]

/-! ### a message -/
structure Mg where
  src : Int
  to : Int
  gen : Int
  kind : Int
  term : Int
  index : Int
  last : Int
  commit : Int
  yes : Bool
  terms : List Int
  es : List En
  old : List Int
  new : List Int
structure Mg.ok (x : Mg) : Prop where
  kind : refuse 2 x.kind = 0
  terms : refuse 6 x.terms.length = 0
  es : refuse 6 x.es.length = 0
  old : refuse 5 x.old.length = 0
  new : refuse 5 x.new.length = 0
  eachE : ∀ e ∈ x.es, e.ok
def Mg.put (x : Mg) (s : List Nat × Nat) : List Nat × Nat := putMsg x.src x.to x.gen x.kind x.term x.index x.last x.commit x.yes x.terms x.es x.old x.new s
def Mg.bytes (x : Mg) : List Nat := num8 x.src ++ (num8 x.to ++ (num8 x.gen ++ ([x.kind.toNat] ++ (num8 x.term ++ (num8 x.index ++ (num8 x.last ++ (num8 x.commit ++ ([(bitOf x.yes).toNat] ++ (([x.terms.length] ++ nums x.terms) ++ (entsBytes x.es ++ (confBytes x.old x.new ++ [])))))))))))
theorem bit_ok (b : Bool) : refuse 3 (bitOf b) = 0 := by cases b <;> decide
theorem bit_one (b : Bool) : ((((bitOf b).toNat : Nat) : Int) == 1) = b := by cases b <;> decide
theorem putRule_ok {q : Nat} {n : Int} (h : refuse q n = 0) (bs : List Nat) : putRule q n (bs, 0) = (bs ++ [n.toNat], 0) := by unfold putRule; simp [h]
theorem put_ok {x : Mg} (h : x.ok) (bs : List Nat) : x.put (bs, 0) = (bs ++ x.bytes, 0) := by
  unfold Mg.put putMsg putInts
  simp only
  rw [putRule_ok h.kind]
  simp only
  rw [putRule_ok (bit_ok x.yes), putList_ok h.terms, putEntries_ok h.es h.eachE, putConfig_ok h.old h.new]
  simp [Mg.bytes, nums]
def Mg.mes (x : Mg) : Mes := ⟨fix x.src, fix x.to, fix x.gen, x.kind, fix x.term, fix x.index, fix x.last, fix x.commit, x.yes, x.terms.map fix, x.es.map En.ent, x.old.map fix, x.new.map fix⟩
def msgR : RF Mes := fun bs s => rmsg bs s
theorem msgR_bind : msgR = bindR intR fun a => bindR intR fun b => bindR intR fun c => bindR (ruleR 2) fun k => bindR intR fun d => bindR intR fun e => bindR intR fun f => bindR intR fun g => bindR (ruleR 3) fun y => bindR (listR 6) fun l => bindR entriesR fun m => bindR configR fun o => retR (⟨a, b, c, (k : Int), d, e, f, g, ((y : Nat) : Int) == 1, l, m, o.1, o.2⟩ : Mes) := by
  funext bs s
  simp only [msgR, rmsg, bindR, retR, intR, ruleR, listR, entriesR, configR]
theorem msgR_stays : Stays msgR := by
  rw [msgR_bind]
  exact stays_bind intR_stays fun _ => stays_bind intR_stays fun _ => stays_bind intR_stays fun _ => stays_bind (ruleR_stays 2) fun _ => stays_bind intR_stays fun _ => stays_bind intR_stays fun _ => stays_bind intR_stays fun _ => stays_bind intR_stays fun _ => stays_bind (ruleR_stays 3) fun _ => stays_bind (listR_stays 6) fun _ => stays_bind entriesR_stays fun _ => stays_bind configR_stays fun _ => stays_ret _
theorem msgR_reads {x : Mg} (h : x.ok) : Reads msgR x.bytes x.mes := by
  rw [msgR_bind]
  unfold Mg.bytes
  have k := toNat_refuse h.kind
  have y := toNat_refuse (bit_ok x.yes)
  refine reads_bind (int_reads x.src) (reads_bind (int_reads x.to) (reads_bind (int_reads x.gen) (reads_bind (ruleR_reads k.1) (reads_bind (int_reads x.term) (reads_bind (int_reads x.index) (reads_bind (int_reads x.last) (reads_bind (int_reads x.commit) (reads_bind (ruleR_reads y.1) (reads_bind (listR_reads h.terms) (reads_bind (entriesR_reads h.es h.eachE) (reads_bind (configR_reads h.old h.new) ?_ fun _ => stays_ret _) fun _ => stays_bind configR_stays fun _ => stays_ret _) fun _ => stays_bind entriesR_stays fun _ => stays_bind configR_stays fun _ => stays_ret _) fun _ => stays_bind (listR_stays 6) fun _ => stays_bind entriesR_stays fun _ => stays_bind configR_stays fun _ => stays_ret _) fun _ => stays_bind (ruleR_stays 3) fun _ => stays_bind (listR_stays 6) fun _ => stays_bind entriesR_stays fun _ => stays_bind configR_stays fun _ => stays_ret _) fun _ => stays_bind intR_stays fun _ => stays_bind (ruleR_stays 3) fun _ => stays_bind (listR_stays 6) fun _ => stays_bind entriesR_stays fun _ => stays_bind configR_stays fun _ => stays_ret _) fun _ => stays_bind intR_stays fun _ => stays_bind intR_stays fun _ => stays_bind (ruleR_stays 3) fun _ => stays_bind (listR_stays 6) fun _ => stays_bind entriesR_stays fun _ => stays_bind configR_stays fun _ => stays_ret _) fun _ => stays_bind intR_stays fun _ => stays_bind intR_stays fun _ => stays_bind intR_stays fun _ => stays_bind (ruleR_stays 3) fun _ => stays_bind (listR_stays 6) fun _ => stays_bind entriesR_stays fun _ => stays_bind configR_stays fun _ => stays_ret _) fun _ => stays_bind intR_stays fun _ => stays_bind intR_stays fun _ => stays_bind intR_stays fun _ => stays_bind intR_stays fun _ => stays_bind (ruleR_stays 3) fun _ => stays_bind (listR_stays 6) fun _ => stays_bind entriesR_stays fun _ => stays_bind configR_stays fun _ => stays_ret _) fun _ => stays_bind (ruleR_stays 2) fun _ => stays_bind intR_stays fun _ => stays_bind intR_stays fun _ => stays_bind intR_stays fun _ => stays_bind intR_stays fun _ => stays_bind (ruleR_stays 3) fun _ => stays_bind (listR_stays 6) fun _ => stays_bind entriesR_stays fun _ => stays_bind configR_stays fun _ => stays_ret _) fun _ => stays_bind intR_stays fun _ => stays_bind (ruleR_stays 2) fun _ => stays_bind intR_stays fun _ => stays_bind intR_stays fun _ => stays_bind intR_stays fun _ => stays_bind intR_stays fun _ => stays_bind (ruleR_stays 3) fun _ => stays_bind (listR_stays 6) fun _ => stays_bind entriesR_stays fun _ => stays_bind configR_stays fun _ => stays_ret _) fun _ => stays_bind intR_stays fun _ => stays_bind intR_stays fun _ => stays_bind (ruleR_stays 2) fun _ => stays_bind intR_stays fun _ => stays_bind intR_stays fun _ => stays_bind intR_stays fun _ => stays_bind intR_stays fun _ => stays_bind (ruleR_stays 3) fun _ => stays_bind (listR_stays 6) fun _ => stays_bind entriesR_stays fun _ => stays_bind configR_stays fun _ => stays_ret _
  rw [k.2, bit_one]
  exact reads_ret _

/-! ### what Parse tells of a front of what was written, and of more -/
theorem cut_told {α : Type} {R : RF α} {c : List Nat} {v : α} (h : Reads R c v) (k : Nat) (hk : k < c.length) : (rend k (R (c.take k) (0, 0)).2).2 = 8 := by
  have h8 := h.2 [] k hk
  simp only [List.nil_append, List.length_nil] at h8
  unfold rend
  split
  · simp only [h8]; rfl
  · exact h8
theorem more_told {α : Type} {R : RF α} {c : List Nat} {v : α} (h : Reads R c v) (x : Nat) : (rend (c.length + 1) (R (c ++ [x]) (0, 0)).2).2 = 9 := by
  have h8 := h.1 [] [x]
  simp only [List.nil_append, List.length_nil, Nat.zero_add] at h8
  rw [h8]
  unfold rend
  simp
theorem whole_told {α : Type} {R : RF α} {c : List Nat} {v : α} (h : Reads R c v) : R c (0, 0) = (v, (c.length, 0)) ∧ (rend c.length (R c (0, 0)).2).2 = 0 := by
  have h8 := h.1 [] []
  simp only [List.nil_append, List.length_nil, Nat.zero_add, List.append_nil] at h8
  rw [h8]
  unfold rend
  simp
end Go.Proofs.YtjplhiflemmkfaaGreatDoor
namespace Go.Proofs.YtjplhiflemmkfaaGreatDoor
open Go.RowKit
theorem heap_lt {w : World} {b : Nat} {o : Obj} (h : w.heap[b]? = some o) : b < w.heap.size := by
  by_cases hl : b < w.heap.size
  · exact hl
  · rw [Array.getElem?_eq_none (by omega)] at h; cases h
theorem drew_below (w : World) : Below w.heap.size w w.drew := (Below.refl _ w).drew
/-- these cells are that entry. -/
def EntIs (base : Nat) (w : World) (cs : Array Value) (x : Ent) : Prop := ∃ v, cs = x.cells v ∧ w.ownsRow base 3 1 v x.members.length (i64s x.members)

end Go.Proofs.YtjplhiflemmkfaaGreatDoor
