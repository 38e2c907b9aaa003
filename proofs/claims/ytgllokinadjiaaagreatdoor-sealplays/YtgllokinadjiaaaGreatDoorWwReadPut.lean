/- What is written is read as it was; cut off anywhere it is told as cut: entries, configurations, messages, plainly. seal.configSize, seal.intAt: contracts. seal.intAt: a contract. Regions whose operations read, and whose callees make memory at most: one walk serves every order. -/
import Derived.Test.YtgllokinadjiaaaGreatDoorWwReaderN
import Derived.Test.YtgllokinadjiaaaGreatDoorWwWriterG
import Derived.Test.YtgllokinadjiaaaGreatDoorNBase
import Derived.BigQuiet
namespace Go.Proofs.YtgllokinadjiaaaGreatDoor.Ww
open Go.RowKit

/-- a number, written and read. -/
def fix (y : Int) : Int := wrap64 ((joinTo 0 (num8 y) : Nat) : Int)
theorem fix_self {y : Int} (h1 : -9223372036854775808 ≤ y) (h2 : y < 9223372036854775808) : fix y = y := num8_join h1 h2
theorem int_reads (y : Int) : Reads intR (num8 y) (fix y) := by
  rw [intR_bind]
  have h := reads_bind (F := fun c => retR (wrap64 ((joinTo 0 c : Nat) : Int))) (takeR_reads (num8_len y)) (reads_ret _) (fun _ => stays_ret _)
  rw [List.append_nil] at h
  exact h
/-- list. -/
def listR (q : Nat) : RF (List Int) := fun bs s => rlist bs q s
theorem rlistN_loop (bs : List Nat) (k : Nat) (s : Nat × Nat) : rlistN bs k s = loopR intR k bs s := by
  induction k with
  | zero => rfl
  | succ k ih => rw [rlistN, ih]; rfl
theorem listR_bind (q : Nat) : listR q = bindR (ruleR q) (loopR intR) := by
  funext bs s
  unfold listR rlist
  rw [rlistN_loop]; rfl
theorem listR_stays (q : Nat) : Stays (listR q) := by rw [listR_bind]; exact stays_bind (ruleR_stays q) (loopR_stays intR_stays)
theorem listR_reads {q : Nat} {ys : List Int} (h : refuse q ys.length = 0) : Reads (listR q) ([ys.length] ++ nums ys) (ys.map fix) := by
  rw [listR_bind]
  refine reads_bind (ruleR_reads h) ?_ (loopR_stays intR_stays)
  have h1 := loopR_reads intR_stays (ys.map num8) (ys.map fix) (by simp) fun i c y hc hy' => by
    rw [List.getElem?_map] at hc hy'
    cases hh : ys[i]? with
    | none => rw [hh] at hc; cases hc
    | some e =>
      rw [hh] at hc hy'
      obtain rfl := Option.some.inj hc
      obtain rfl := Option.some.inj hy'
      exact int_reads e
  rw [List.length_map] at h1
  exact h1

/-! ### an entry -/
/-- an entry that may be written. -/
structure En.ok (e : En) : Prop where
  kind : refuse 0 e.kind = 0
  text : refuse 4 e.text.size = 0
  ms : refuse 5 e.ms.length = 0
  dst : refuse 1 e.dst = 0
def En.bytes (e : En) : List Nat := [e.kind.toNat] ++ (num8 e.client ++ (num8 e.seq ++ (([e.text.size] ++ bytesOf e.text) ++ (([e.ms.length] ++ nums e.ms) ++ ([e.dst.toNat] ++ [])))))
theorem putE_ok {e : En} (h : e.ok) (bs : List Nat) : putE e (bs, 0) = (bs ++ e.bytes, 0) := by
  have h1 := h.kind
  have h2 := h.text
  have h3 := h.ms
  have h4 := h.dst
  simp only [putE, putEntry, putRule, putText, putList, putInts, h1, h2, h3, h4, ne_eq, not_true_eq_false, if_false, and_self, if_true, En.bytes, nums]
  simp
def En.ent (e : En) : Ent := ⟨e.kind, fix e.client, fix e.seq, bytesOf e.text, e.ms.map fix, e.dst⟩
def entryR : RF Ent := fun bs s => rentry bs s
theorem entryR_bind : entryR = bindR (ruleR 0) fun k => bindR intR fun c => bindR intR fun q => bindR textR fun d => bindR (listR 5) fun m => bindR (ruleR 1) fun t => retR (⟨(k : Int), c, q, d, m, (t : Int)⟩ : Ent) := rfl
theorem entryR_stays : Stays entryR := by
  rw [entryR_bind]
  exact stays_bind (ruleR_stays 0) fun _ => stays_bind intR_stays fun _ => stays_bind intR_stays fun _ => stays_bind textR_stays fun _ => stays_bind (listR_stays 5) fun _ => stays_bind (ruleR_stays 1) fun _ => stays_ret _
theorem toNat_refuse {q : Nat} {n : Int} (h : refuse q n = 0) : refuse q (n.toNat : Nat) = 0 ∧ ((n.toNat : Nat) : Int) = n := by
  have e : ((n.toNat : Nat) : Int) = n := Int.toNat_of_nonneg (refuse_range h).1
  rw [e]; exact ⟨h, rfl⟩
theorem entryR_reads {e : En} (h : e.ok) : Reads entryR e.bytes e.ent := by
  rw [entryR_bind]
  unfold En.bytes
  have k := toNat_refuse h.kind
  have t := toNat_refuse h.dst
  have hl : (bytesOf e.text).length = e.text.size := bytesOf_len _
  refine reads_bind (ruleR_reads k.1) (reads_bind (int_reads e.client) (reads_bind (int_reads e.seq) (reads_bind (v := bytesOf e.text) ?_ (reads_bind (listR_reads h.ms) (reads_bind (ruleR_reads t.1) ?_ fun _ => stays_ret _) ?_) ?_) ?_) ?_) ?_
  · have := textR_reads (c := bytesOf e.text) (by rw [hl]; exact h.text)
    rw [hl] at this; exact this
  · rw [k.2, t.2]; exact reads_ret _
  · exact fun _ => stays_bind (ruleR_stays 1) fun _ => stays_ret _
  · exact fun _ => stays_bind (listR_stays 5) fun _ => stays_bind (ruleR_stays 1) fun _ => stays_ret _
  · exact fun _ => stays_bind textR_stays fun _ => stays_bind (listR_stays 5) fun _ => stays_bind (ruleR_stays 1) fun _ => stays_ret _
  · exact fun _ => stays_bind intR_stays fun _ => stays_bind textR_stays fun _ => stays_bind (listR_stays 5) fun _ => stays_bind (ruleR_stays 1) fun _ => stays_ret _
  · exact fun _ => stays_bind intR_stays fun _ => stays_bind intR_stays fun _ => stays_bind textR_stays fun _ => stays_bind (listR_stays 5) fun _ => stays_bind (ruleR_stays 1) fun _ => stays_ret _

/-! ### entries, a configuration -/
def entriesR : RF (List Ent) := fun bs s => rentries bs s
theorem rentriesN_loop (bs : List Nat) (k : Nat) (s : Nat × Nat) : rentriesN bs k s = loopR entryR k bs s := by
  induction k with
  | zero => rfl
  | succ k ih => rw [rentriesN, ih]; rfl
theorem entriesR_bind : entriesR = bindR (ruleR 6) (loopR entryR) := by
  funext bs s
  unfold entriesR rentries
  rw [rentriesN_loop]; rfl
theorem entriesR_stays : Stays entriesR := by rw [entriesR_bind]; exact stays_bind (ruleR_stays 6) (loopR_stays entryR_stays)
def entsBytes (es : List En) : List Nat := [es.length] ++ (es.map En.bytes).flatten
theorem entriesR_reads {es : List En} (h : refuse 6 es.length = 0) (he : ∀ e ∈ es, e.ok) : Reads entriesR (entsBytes es) (es.map En.ent) := by
  rw [entriesR_bind]
  refine reads_bind (ruleR_reads h) ?_ (loopR_stays entryR_stays)
  have h1 := loopR_reads entryR_stays (es.map En.bytes) (es.map En.ent) (by simp) fun i c y hc hy' => by
    rw [List.getElem?_map] at hc hy'
    cases hh : es[i]? with
    | none => rw [hh] at hc; cases hc
    | some e =>
      rw [hh] at hc hy'
      obtain rfl := Option.some.inj hc
      obtain rfl := Option.some.inj hy'
      exact entryR_reads (he e (List.mem_of_getElem? hh))
  rw [List.length_map] at h1
  exact h1
theorem putEs_ok : ∀ (es : List En) (_ : ∀ e ∈ es, e.ok) (bs : List Nat), putEs es (bs, 0) = (bs ++ (es.map En.bytes).flatten, 0)
  | [], _, bs => by simp [putEs]
  | e :: es, h, bs => by
    show putEs es (putE e (bs, 0)) = _
    rw [putE_ok (h e (by simp)), putEs_ok es (fun x hx => h x (List.mem_cons_of_mem _ hx))]
    simp
theorem putEntries_ok {es : List En} (h : refuse 6 es.length = 0) (he : ∀ e ∈ es, e.ok) (bs : List Nat) : putEntries es (bs, 0) = (bs ++ entsBytes es, 0) := by
  unfold putEntries putRule
  simp only [h, ne_eq, not_true_eq_false, if_false, and_self, if_true]
  rw [putEs_ok es he]
  simp [entsBytes]
def configR : RF (List Int × List Int) := fun bs s => rconfig bs s
theorem configR_bind : configR = bindR (listR 5) fun a => bindR (listR 5) fun b => retR (a, b) := rfl
theorem configR_stays : Stays configR := by rw [configR_bind]; exact stays_bind (listR_stays 5) fun _ => stays_bind (listR_stays 5) fun _ => stays_ret _
def confBytes (xs ys : List Int) : List Nat := ([xs.length] ++ nums xs) ++ (([ys.length] ++ nums ys) ++ [])
theorem configR_reads {xs ys : List Int} (h1 : refuse 5 xs.length = 0) (h2 : refuse 5 ys.length = 0) : Reads configR (confBytes xs ys) (xs.map fix, ys.map fix) := by
  rw [configR_bind]
  exact reads_bind (listR_reads h1) (reads_bind (listR_reads h2) (reads_ret _) fun _ => stays_ret _) fun _ => stays_bind (listR_stays 5) fun _ => stays_ret _
theorem putList_ok {q : Nat} {ys : List Int} (h : refuse q ys.length = 0) (bs : List Nat) : putList q ys (bs, 0) = (bs ++ ([ys.length] ++ nums ys), 0) := by
  unfold putList putRule
  simp [h]
theorem putConfig_ok {xs ys : List Int} (h1 : refuse 5 xs.length = 0) (h2 : refuse 5 ys.length = 0) (bs : List Nat) : putConfig xs ys (bs, 0) = (bs ++ confBytes xs ys, 0) := by
  unfold putConfig
  rw [putList_ok h1, putList_ok h2]
  simp [confBytes]

/-! ### a message -/
structure Mg where
  src : Int
  dst : Int
  gen : Int
  kind : Int
  term : Int
  index : Int
  last : Int
  commit : Int
  yes : Bool
  terms : List Int
  es : List En
  old : List Int
  new : List Int
structure Mg.ok (x : Mg) : Prop where
  kind : refuse 2 x.kind = 0
  terms : refuse 6 x.terms.length = 0
  es : refuse 6 x.es.length = 0
  old : refuse 5 x.old.length = 0
  new : refuse 5 x.new.length = 0
  eachE : ∀ e ∈ x.es, e.ok
def Mg.put (x : Mg) (s : List Nat × Nat) : List Nat × Nat := putMsg x.src x.dst x.gen x.kind x.term x.index x.last x.commit x.yes x.terms x.es x.old x.new s
def Mg.bytes (x : Mg) : List Nat := num8 x.src ++ (num8 x.dst ++ (num8 x.gen ++ ([x.kind.toNat] ++ (num8 x.term ++ (num8 x.index ++ (num8 x.last ++ (num8 x.commit ++ ([(bitOf x.yes).toNat] ++ (([x.terms.length] ++ nums x.terms) ++ (entsBytes x.es ++ (confBytes x.old x.new ++ [])))))))))))
theorem bit_ok (b : Bool) : refuse 3 (bitOf b) = 0 := by cases b <;> decide
theorem bit_one (b : Bool) : ((((bitOf b).toNat : Nat) : Int) == 1) = b := by cases b <;> decide
theorem putRule_ok {q : Nat} {n : Int} (h : refuse q n = 0) (bs : List Nat) : putRule q n (bs, 0) = (bs ++ [n.toNat], 0) := by unfold putRule; simp [h]
theorem put_ok {x : Mg} (h : x.ok) (bs : List Nat) : x.put (bs, 0) = (bs ++ x.bytes, 0) := by
  unfold Mg.put putMsg putInts
  simp only
  rw [putRule_ok h.kind]
  simp only
  rw [putRule_ok (bit_ok x.yes), putList_ok h.terms, putEntries_ok h.es h.eachE, putConfig_ok h.old h.new]
  simp [Mg.bytes, nums]
def Mg.mes (x : Mg) : Mes := ⟨fix x.src, fix x.dst, fix x.gen, x.kind, fix x.term, fix x.index, fix x.last, fix x.commit, x.yes, x.terms.map fix, x.es.map En.ent, x.old.map fix, x.new.map fix⟩
def msgR : RF Mes := fun bs s => rmsg bs s
theorem msgR_bind : msgR = bindR intR fun a => bindR intR fun b => bindR intR fun c => bindR (ruleR 2) fun k => bindR intR fun d => bindR intR fun e => bindR intR fun f => bindR intR fun g => bindR (ruleR 3) fun y => bindR (listR 6) fun l => bindR entriesR fun m => bindR configR fun o => retR (⟨a, b, c, (k : Int), d, e, f, g, ((y : Nat) : Int) == 1, l, m, o.1, o.2⟩ : Mes) := by
  funext bs s
  simp only [msgR, rmsg, bindR, retR, intR, ruleR, listR, entriesR, configR]
theorem msgR_stays : Stays msgR := by
  rw [msgR_bind]
  exact stays_bind intR_stays fun _ => stays_bind intR_stays fun _ => stays_bind intR_stays fun _ => stays_bind (ruleR_stays 2) fun _ => stays_bind intR_stays fun _ => stays_bind intR_stays fun _ => stays_bind intR_stays fun _ => stays_bind intR_stays fun _ => stays_bind (ruleR_stays 3) fun _ => stays_bind (listR_stays 6) fun _ => stays_bind entriesR_stays fun _ => stays_bind configR_stays fun _ => stays_ret _
theorem msgR_reads {x : Mg} (h : x.ok) : Reads msgR x.bytes x.mes := by
  rw [msgR_bind]
  unfold Mg.bytes
  have k := toNat_refuse h.kind
  have y := toNat_refuse (bit_ok x.yes)
  refine reads_bind (int_reads x.src) (reads_bind (int_reads x.dst) (reads_bind (int_reads x.gen) (reads_bind (ruleR_reads k.1) (reads_bind (int_reads x.term) (reads_bind (int_reads x.index) (reads_bind (int_reads x.last) (reads_bind (int_reads x.commit) (reads_bind (ruleR_reads y.1) (reads_bind (listR_reads h.terms) (reads_bind (entriesR_reads h.es h.eachE) (reads_bind (configR_reads h.old h.new) ?_ fun _ => stays_ret _) fun _ => stays_bind configR_stays fun _ => stays_ret _) fun _ => stays_bind entriesR_stays fun _ => stays_bind configR_stays fun _ => stays_ret _) fun _ => stays_bind (listR_stays 6) fun _ => stays_bind entriesR_stays fun _ => stays_bind configR_stays fun _ => stays_ret _) fun _ => stays_bind (ruleR_stays 3) fun _ => stays_bind (listR_stays 6) fun _ => stays_bind entriesR_stays fun _ => stays_bind configR_stays fun _ => stays_ret _) fun _ => stays_bind intR_stays fun _ => stays_bind (ruleR_stays 3) fun _ => stays_bind (listR_stays 6) fun _ => stays_bind entriesR_stays fun _ => stays_bind configR_stays fun _ => stays_ret _) fun _ => stays_bind intR_stays fun _ => stays_bind intR_stays fun _ => stays_bind (ruleR_stays 3) fun _ => stays_bind (listR_stays 6) fun _ => stays_bind entriesR_stays fun _ => stays_bind configR_stays fun _ => stays_ret _) fun _ => stays_bind intR_stays fun _ => stays_bind intR_stays fun _ => stays_bind intR_stays fun _ => stays_bind (ruleR_stays 3) fun _ => stays_bind (listR_stays 6) fun _ => stays_bind entriesR_stays fun _ => stays_bind configR_stays fun _ => stays_ret _) fun _ => stays_bind intR_stays fun _ => stays_bind intR_stays fun _ => stays_bind intR_stays fun _ => stays_bind intR_stays fun _ => stays_bind (ruleR_stays 3) fun _ => stays_bind (listR_stays 6) fun _ => stays_bind entriesR_stays fun _ => stays_bind configR_stays fun _ => stays_ret _) fun _ => stays_bind (ruleR_stays 2) fun _ => stays_bind intR_stays fun _ => stays_bind intR_stays fun _ => stays_bind intR_stays fun _ => stays_bind intR_stays fun _ => stays_bind (ruleR_stays 3) fun _ => stays_bind (listR_stays 6) fun _ => stays_bind entriesR_stays fun _ => stays_bind configR_stays fun _ => stays_ret _) fun _ => stays_bind intR_stays fun _ => stays_bind (ruleR_stays 2) fun _ => stays_bind intR_stays fun _ => stays_bind intR_stays fun _ => stays_bind intR_stays fun _ => stays_bind intR_stays fun _ => stays_bind (ruleR_stays 3) fun _ => stays_bind (listR_stays 6) fun _ => stays_bind entriesR_stays fun _ => stays_bind configR_stays fun _ => stays_ret _) fun _ => stays_bind intR_stays fun _ => stays_bind intR_stays fun _ => stays_bind (ruleR_stays 2) fun _ => stays_bind intR_stays fun _ => stays_bind intR_stays fun _ => stays_bind intR_stays fun _ => stays_bind intR_stays fun _ => stays_bind (ruleR_stays 3) fun _ => stays_bind (listR_stays 6) fun _ => stays_bind entriesR_stays fun _ => stays_bind configR_stays fun _ => stays_ret _
  rw [k.2, bit_one]
  exact reads_ret _

/-! ### what Parse tells of a front of what was written, and of more -/
theorem cut_told {α : Type} {R : RF α} {c : List Nat} {v : α} (h : Reads R c v) (k : Nat) (hk : k < c.length) : (rend k (R (c.take k) (0, 0)).2).2 = 8 := by
  have h8 := h.2 [] k hk
  simp only [List.nil_append, List.length_nil] at h8
  unfold rend
  split
  · simp only [h8]; rfl
  · exact h8
theorem more_told {α : Type} {R : RF α} {c : List Nat} {v : α} (h : Reads R c v) (x : Nat) : (rend (c.length + 1) (R (c ++ [x]) (0, 0)).2).2 = 9 := by
  have h8 := h.1 [] [x]
  simp only [List.nil_append, List.length_nil, Nat.zero_add] at h8
  rw [h8]
  unfold rend
  simp
theorem whole_told {α : Type} {R : RF α} {c : List Nat} {v : α} (h : Reads R c v) : R c (0, 0) = (v, (c.length, 0)) ∧ (rend c.length (R c (0, 0)).2).2 = 0 := by
  have h8 := h.1 [] []
  simp only [List.nil_append, List.length_nil, Nat.zero_add, List.append_nil] at h8
  rw [h8]
  unfold rend
  simp
end Go.Proofs.YtgllokinadjiaaaGreatDoor.Ww
namespace Go.Proofs.YtgllokinadjiaaaGreatDoor
open Go.RowKit Go.Maps
open Ww (Given joinTo)

/-- how many bytes a list takes that begins at a place, as far as the bytes go. -/
def cfgStep (bs : List Nat) (k : Nat) : Nat := if k < bs.length then min bs.length (k + 1 + 8 * bs.getD k 0) else k
def cfgSize (bs : List Nat) : Nat := cfgStep bs (cfgStep bs 0)
theorem cfgStep_le (bs : List Nat) {k : Nat} (h : k ≤ bs.length) : cfgStep bs k ≤ bs.length := by
  unfold cfgStep; split
  · exact Nat.min_le_left _ _
  · exact h
theorem cfgSize_le (bs : List Nat) : cfgSize bs ≤ bs.length := cfgStep_le bs (cfgStep_le bs (Nat.zero_le _))
def cfgUp (bs : List Nat) : Nat → Nat
  | 0 => 0
  | j + 1 => cfgStep bs (cfgUp bs j)
theorem cfgUp_le (bs : List Nat) : ∀ j, cfgUp bs j ≤ bs.length
  | 0 => Nat.zero_le _
  | j + 1 => cfgStep_le bs (cfgUp_le bs j)
set_option maxRecDepth 20000 in
set_option maxHeartbeats 2000000 in
theorem configSize_any (ao : Option Addr) (n cap : Nat) (bs : List Nat) (w : World) (hg : Given w ao n cap bs) :
    Calls Tryz.prog 72 #[.slice ao n cap] w fun e w' => e = .returned (.int .i64 ((cfgSize bs : Nat) : Int)) ∧ w' = w := by
  have HG := hide hg
  have HL : Hid (bs.length = n) := hide hg.len
  have hbig := hg.big
  clear hg
  go_enter Tryz.func72, Tryz.ntmps72
  go_wp2
  go_loopw [4, 3] (fun i a wr => ∃ j : Nat, j ≤ 2 ∧ i = .int .i64 j ∧ a = .int .i64 ((cfgUp bs j : Nat) : Int) ∧ wr = w) (fun i _ _ => 2 - (intOf i).toNat)
  case atStart => exact ⟨0, by omega, rfl, rfl, rfl⟩
  case round =>
    obtain ⟨j, hj, rfl, rfl, rfl⟩ := hrel
    by_cases hj2 : j < 2
    · have q2 : (j : Int) < 2 := by omega
      have hst : cfgUp bs (j + 1) = cfgStep bs (cfgUp bs j) := rfl
      have hle := cfgUp_le bs j
      obtain ⟨k, hk⟩ : ∃ k, cfgUp bs j = k := ⟨_, rfl⟩
      rw [hk] at hst hle ⊢
      have HST := hide hst
      rw [unhide HL] at hle
      by_cases hkn : k < n
      · obtain ⟨a, rfl, hc⟩ := (unhide HG).are.2 k (by rw [unhide HL]; exact hkn)
        obtain ⟨x, hx⟩ : ∃ x, bs.getD k 0 = x := ⟨_, rfl⟩
        have hx256 : x < 256 := by rw [← hx]; exact Ww.getD_lt (unhide HG).are.1 k
        rw [hx] at hc
        have q1 : (k : Int) < (n : Int) := by omega
        have q0 : (0 : Int) ≤ (k : Int) := by omega
        obtain ⟨r, hr⟩ : ∃ r, cfgStep bs k = r := ⟨_, rfl⟩
        have HR : Hid (r = if n ≤ k + 1 + 8 * x then n else k + 1 + 8 * x) := hide (by
          rw [← hr]; unfold cfgStep
          rw [unhide HL, if_pos hkn, hx, Nat.min_def])
        by_cases hm : n ≤ k + 1 + 8 * x
        · have hr2 := unhide HR
          rw [if_pos hm] at hr2
          have q4 : (n : Int) ≤ (k : Int) + 1 + 8 * (x : Int) := by omega
          have q5 : ¬ (k : Int) + 1 + 8 * (x : Int) < (n : Int) := by omega
          clear hx hk hst hm
          go_wp2
          go_roundw
          case rel => exact ⟨j + 1, by omega, by go_num, by rw [unhide HST, hr, hr2], trivial⟩
          case measure => simp [intOf]; omega
        · have hr2 := unhide HR
          rw [if_neg hm] at hr2
          have q4 : ¬ (n : Int) ≤ (k : Int) + 1 + 8 * (x : Int) := by omega
          have q5 : (k : Int) + 1 + 8 * (x : Int) < (n : Int) := by omega
          clear hx hk hst hm
          go_wp2
          go_roundw
          case rel => exact ⟨j + 1, by omega, by go_num, by rw [unhide HST, hr, hr2]; first | rfl | go_num, trivial⟩
          case measure => simp [intOf]; omega
      · have q1 : ¬ (k : Int) < (n : Int) := by omega
        clear hk hst
        go_wp2
        go_roundw
        case rel => exact ⟨j + 1, by omega, by go_num, by rw [unhide HST]; unfold cfgStep; rw [unhide HL, if_neg hkn], trivial⟩
        case measure => simp [intOf]; omega
    · obtain rfl : j = 2 := by omega
      go_wp2
      go_ret
      exact ⟨rfl, rfl⟩
end Go.Proofs.YtgllokinadjiaaaGreatDoor
namespace Go.Proofs.YtgllokinadjiaaaGreatDoor
open Go.RowKit Go.Maps
open Ww (Given joinTo)

set_option maxRecDepth 20000 in
set_option maxHeartbeats 2000000 in
theorem intAt_any (a : Addr) (n cap : Nat) (bs : List Nat) (w : World) (hg : Given w (some a) n cap bs) (j : Nat) (hj : 8 * j + 8 ≤ n) :
    Calls Tryz.prog 74 #[.slice (some a) n cap, .int .i64 (j : Int)] w fun e w' => e = .returned (.int .i64 (wrap64 ((joinTo 0 ((bs.drop (8 * j)).take 8) : Nat) : Int))) ∧ w' = w := by
  obtain ⟨s, hs⟩ : ∃ s, 8 * j = s := ⟨_, rfl⟩
  obtain ⟨cs, hcs⟩ : ∃ cs, (bs.drop s).take 8 = cs := ⟨_, rfl⟩
  have hl8 : cs.length = 8 := by rw [← hcs, List.length_take, List.length_drop, hg.len]; omega
  have hB : Ww.Bytes w (some (a.add s)) cs := by rw [← hcs]; exact (hg.are.drop s).take 8
  have HB := hide hB
  have HL := hide hl8
  have HQ : Hid ((bs.drop (8 * j)).take 8 = cs) := hide (by rw [hs]; exact hcs)
  rw [unhide HQ]
  have hroom := hg.room
  have hbig := hg.big
  have q0 : IntKind.i64.wrap ((j : Int) * 8) = (s : Int) := by rw [IntKind.wrap_i64] <;> omega
  have q1 : (s : Int) ≤ (n : Int) := by omega
  have q2 : (s : Int) + 8 ≤ (n : Int) := by omega
  have q3 : (8 : Int) ≤ (n : Int) - (s : Int) := by omega
  have q4 : (8 : Int) ≤ (cap : Int) - (s : Int) := by omega
  have q5 : (n : Int) ≤ (cap : Int) := by omega
  clear hB hcs hg hl8
  go_enter Tryz.func74, Tryz.ntmps74
  go_wp2
  go_loop [5, 14, 7] (fun s i _ => ∃ k : Nat, k ≤ 8 ∧ i = .int .i64 k ∧ s = .int .u64 ((joinTo 0 (cs.take k) : Nat) : Int) ∧ joinTo 0 (cs.take k) < 18446744073709551616) (fun _ i _ => 8 - (intOf i).toNat)
  case atStart => exact ⟨0, Nat.zero_le _, rfl, rfl, by simp [joinTo]⟩
  case round =>
    obtain ⟨k, hk, rfl, rfl, hs2⟩ := hrel
    by_cases hlt : k < 8
    · obtain ⟨a', ea, hc⟩ := (unhide HB).2 k (by rw [unhide HL]; exact hlt)
      obtain rfl := Option.some.inj ea
      have hx := Ww.getD_lt (unhide HB).1 k
      have HE : Hid (joinTo 0 (cs.take (k + 1)) = joinTo 0 (cs.take k) * 256 % 18446744073709551616 + cs.getD k 0) := by
        show _ = _
        rw [take_succ cs 0 k (by rw [unhide HL]; exact hlt), joinTo, List.foldl_append]; rfl
      generalize cs.getD k 0 = x at *
      generalize joinTo 0 (cs.take k) = s at *
      have e1 : bits .or .u64 (IntKind.u64.wrap ((s : Int) * 256)) (x : Int) = ((s * 256 % 18446744073709551616 + x : Nat) : Int) := by
        have := u64_or_nat (s * 256 % 18446744073709551616) x (by omega) (by omega)
        rw [nat_join 8 _ x (by omega) hx] at this
        rw [IntKind.wrap_u64]
        simpa using this
      go_wp2
      go_round
      case rel => exact ⟨k + 1, by omega, by go_num, by rw [unhide HE]; simp, by rw [unhide HE]; omega⟩
      case measure => simp [intOf]; omega
    · have he : cs.take k = cs := List.take_of_length_le (by rw [unhide HL]; omega)
      rw [he] at hs2 ⊢
      clear he
      go_wp2
      go_ret
      exact ⟨rfl, rfl⟩
end Go.Proofs.YtgllokinadjiaaaGreatDoor
namespace Go.Proofs.YtgllokinadjiaaaGreatDoor
open Go.RowKit Go.Maps

/-- a world behind another one, of which it keeps all. -/
structure Bel (z : World) where
  w : World
  b : Below z.heap.size z w
theorem Bel.ne (z : World) : Nonempty (Bel z) := ⟨⟨z, Below.refl _ z⟩⟩
theorem Bel.cell {z : World} (s : Bel z) {a : Addr} {u : Value} (h : z.cell? a = some u) : s.w.cell? a = some u := (s.b.cell (blk_lt h)).trans h
theorem Bel.of {z w : World} (h : ∃ s : Bel z, w = s.w) : Below z.heap.size z w := by
  obtain ⟨s, rfl⟩ := h
  exact s.b
theorem Bel.call {z : World} {f : FuncId} {args : Array Value} {v : Value} (s : Bel z) (h : Calls Tryz.prog f args s.w fun e w' => e = .returned v ∧ Below s.w.heap.size s.w w') : Calls Tryz.prog f args s.w fun e w' => e = .returned v ∧ ∃ t : Bel z, w' = t.w :=
  h.mono fun _ w' k => ⟨k.1, ⟨w', below_far s.b k.2⟩, rfl⟩
theorem quiet_bel {id : Nat} {Q : Exit → Act → World → Prop} {a : Act} {z : World} {l : List Oper} (hm : Tryz.prog.follows .mixedOrders = true) (hB : Region.lexB .any l.toArray = true)
    (h : wpQuiet Tryz.prog l.toArray (fun w' => ∃ s : Bel z, w' = s.w) (fun a' => ∀ w', (∃ s : Bel z, w' = s.w) → Q .normal a' w') l a) : (Code.region id l.toArray true).wp Tryz.prog Q a z :=
  wp_region_quiet (C := fun w' => ∃ s : Bel z, w' = s.w) hm hB ⟨⟨z.drew, (Below.refl _ z).drew⟩, rfl⟩ (by simpa using h)
end Go.Proofs.YtgllokinadjiaaaGreatDoor
