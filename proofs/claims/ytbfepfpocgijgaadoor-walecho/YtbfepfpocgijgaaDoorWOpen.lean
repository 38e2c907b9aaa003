/- wal's All, Open: contracts. -/
import Derived.Test.YtbfepfpocgijgaaDoorWLog
namespace Go.Proofs.YtbfepfpocgijgaaDoor
open Go.RowKit

theorem Tp.fits {base : Nat} {w : World} {p : Nat} {q : Option Nat} {s : St} (h : Tp base w p q s) : s.syn ≤ s.bs.length ∧ s.bs.length ≤ s.room := by
  obtain ⟨_, _, _, _, _, h5, h6, _⟩ := h; exact ⟨h5, h6⟩
theorem RowsOf.rebase {base base' : Nat} {w : World} {vs : List Value} {xs : List (List Nat)} (h : RowsOf base w vs xs) (hb : base' ≤ base) : RowsOf base' w vs xs := h.imp id fun k i v x hv hx => (k i v x hv hx).rebase hb
theorem own_rebase {base base' : Nat} {w : World} {e : TypeId} {z : Nat} {v : Value} {n : Nat} {vs : List Value} (h : w.ownsRow base e z v n vs) (hb : base' ≤ base) : w.ownsRow base' e z v n vs := by
  refine ⟨h.1, ?_⟩
  rcases h.2 with h0 | ⟨g, cap, cur, e, hg, rest⟩
  · exact Or.inl h0
  · exact Or.inr ⟨g, cap, cur, e, Nat.le_trans hb hg, rest⟩

set_option maxRecDepth 20000 in
set_option maxHeartbeats 1000000 in
theorem wall_any (base l p : Nat) (q : Option Nat) (s : St) (n : Nat) (g a : Addr) (w : World) (h : Lg base w l p q s n) (hS : Start w g a) (xs : List (List Nat)) (hx : Fit xs) (r : List Nat) (hbs : s.bs = cats xs ++ r) (hn : takes xs = n) (hroom : s.room ≤ 1000000000) :
    Calls Tryd.prog 18 #[.pointer (some ⟨l, 0, none⟩)] w fun e w' => ∃ fv vs, e = .returned fv ∧ w'.ownsRow w.heap.size 32 1 fv vs.length vs ∧ RowsOf w.heap.size w' vs xs ∧ Below w.heap.size w w' := by
  have c0 : w.cell? ⟨l, 0, none⟩ = some (.pointer (some ⟨p, 0, none⟩)) := (cell_of_block h.2.1).trans rfl
  obtain ⟨m, hm⟩ : ∃ m, s.bs.length = m := ⟨_, rfl⟩
  have hmb : m ≤ 1000000000 := by have h6 := h.tape.fits; omega
  have hnm : n ≤ m := by rw [← hm, hbs, List.length_append, cats_len, hn]; omega
  have HC := hide (bytes_own base p q s s.bs m rfl hm w h.tape)
  have ht : s.bs.take n = cats xs := by rw [hbs, List.take_append_of_le_length (by rw [cats_len, hn]; omega), List.take_of_length_le (by rw [cats_len, hn]; omega)]
  have HT := hide ht
  have H := hide h
  have HS := hide hS
  have HX := hide hx
  have HN := hide hn
  have HM := hide hm
  clear h hS hx hbs hn ht hm hroom
  go_enter Tryd.func18, Tryd.ntmps18
  go_wp2_with fail
  refine (unhide HC).mono ?_
  rintro e w1 ⟨ao, cap, rfl, o1, b1⟩
  have l1 := (unhide H).below b1
  have c1 : w1.cell? ⟨l, 1, none⟩ = some (.int .i64 (n : Int)) := (cell_of_block l1.2.1).trans rfl
  obtain ⟨ao', cap', e', hc, _, by1, hnone, _⟩ := o1.slice
  rw [unhide HM] at hc
  obtain ⟨rfl, hxx, rfl⟩ : ao = ao' ∧ m = s.bs.length ∧ cap = cap' := by simpa using e'
  clear hxx
  have BY := hide (by1.take n)
  rw [unhide HT] at BY
  have B1 := hide b1
  have S1 := hide ((unhide HS).below b1)
  have s1 := b1.size
  have hln : (cats xs).length = n := (cats_len xs).trans (unhide HN)
  have HL := hide hln
  have HSP := hide (split_whole (unhide HX))
  rw [unhide HN] at HSP
  clear e' o1 b1 l1 by1 HC hln
  by_cases h0 : ao = none
  · subst h0
    have hc0 := hnone rfl
    subst hc0
    have hn0 : n = 0 := by omega
    subst hn0
    clear hnone
    have e0 : m = 0 := by omega
    subst e0
    go_wp2_with fail
    have hs := split_any none 0 (cats xs) w1 (unhide BY) (by rw [unhide HL]; omega) (by rw [unhide HL]; omega) (unhide S1).tab (unhide S1).glob (unhide S1).low
    rw [unhide HSP, unhide HL] at hs
    refine hs.mono ?_
    rintro e w2 ⟨fv, vs, rfl, hof, hro, b2⟩
    have OF := hide (own_rebase hof s1)
    have RO := hide (hro.rebase s1)
    have B2 := hide ((unhide B1).trans (b2.mono s1))
    clear hof hro b2 hs
    go_wp2
    go_ret
    exact ⟨fv, vs, rfl, unhide OF, unhide RO, unhide B2⟩
  · obtain ⟨ad, rfl⟩ : ∃ ad, ao = some ad := by
      cases ao with
      | none => exact absurd rfl h0
      | some ad => exact ⟨ad, rfl⟩
    clear h0 hnone
    go_wp2_with fail
    have hs := split_any (some ad) cap (cats xs) w1 (unhide BY) (by rw [unhide HL]; omega) (by rw [unhide HL]; omega) (unhide S1).tab (unhide S1).glob (unhide S1).low
    rw [unhide HSP, unhide HL] at hs
    refine hs.mono ?_
    rintro e w2 ⟨fv, vs, rfl, hof, hro, b2⟩
    have OF := hide (own_rebase hof s1)
    have RO := hide (hro.rebase s1)
    have B2 := hide ((unhide B1).trans (b2.mono s1))
    clear hof hro b2 hs
    go_wp2
    go_ret
    exact ⟨fv, vs, rfl, unhide OF, unhide RO, unhide B2⟩

theorem open_dead (base p : Nat) (q : Option Nat) (s : St) (w : World) (h : Tp base w p q s) (hd : s.dead = true) :
    Calls Tryd.prog 11 #[.pointer (some ⟨p, 0, none⟩)] w fun e w' => e = .returned (.tuple #[.pointer none, .int .i64 13]) ∧ w' = w := by
  have HC := hide (dead_any base p q s w h)
  rw [hd] at HC
  clear h hd
  go_enter Tryd.func11, Tryd.ntmps11
  go_wp2_with fail
  refine (unhide HC).mono ?_
  rintro e w1 ⟨rfl, rfl⟩
  go_wp2
  go_ret2
  exact ⟨rfl, rfl⟩

set_option maxRecDepth 20000 in
set_option maxHeartbeats 1000000 in
theorem open_whole (base p : Nat) (q : Option Nat) (s : St) (g a : Addr) (w : World) (h : Tp base w p q s) (hS : Start w g a) (hb : base ≤ w.heap.size) (hd : s.dead = false) (xs : List (List Nat)) (hx : Fit xs) (hbs : s.bs = cats xs) (n : Nat) (hn : takes xs = n) (hroom : s.room ≤ 1000000000) :
    Calls Tryd.prog 11 #[.pointer (some ⟨p, 0, none⟩)] w fun e w' => ∃ l, e = .returned (.tuple #[.pointer (some ⟨l, 0, none⟩), .int .i64 0]) ∧ w.heap.size ≤ l ∧ Lg base w' l p q s n ∧ Below w.heap.size w w' := by
  have HC := hide (dead_any base p q s w h)
  rw [hd] at HC
  obtain ⟨m, hm⟩ : ∃ m, s.bs.length = m := ⟨_, rfl⟩
  have hmb : m ≤ 1000000000 := by have h6 := h.fits; omega
  have hnm : n = m := by rw [← hm, hbs, cats_len, hn]
  subst hnm
  have HC2 := hide (bytes_own base p q s s.bs n rfl hm w h)
  have HSP := hide (split_whole hx)
  rw [← hbs, hn] at HSP
  have H := hide h
  have HS := hide hS
  have HM := hide hm
  clear h hS hx hbs hn hm hd
  go_enter Tryd.func11, Tryd.ntmps11
  go_wp2_with fail
  refine (unhide HC).mono ?_
  rintro e w0 ⟨rfl, rfl⟩
  go_wp2_with fail
  refine (unhide HC2).mono ?_
  rintro e w1 ⟨ao, cap, rfl, o1, b1⟩
  obtain ⟨ao', cap', e', hc, _, by1, hnone, _⟩ := o1.slice
  rw [unhide HM] at hc
  obtain ⟨rfl, hxx, rfl⟩ : ao = ao' ∧ n = s.bs.length ∧ cap = cap' := by simpa using e'
  clear hxx
  have BY := hide by1
  have B1 := hide b1
  have S1 := hide ((unhide HS).below b1)
  have s1 := b1.size
  clear e' o1 b1 by1 HC HC2
  go_wp2_with fail
  refine (wholeSize_any ao n cap s.bs (unhide HM) xs n (unhide HSP) (Nat.le_refl _) g a w1 (unhide BY) hc (by omega) (unhide S1)).mono ?_
  rintro e w2 ⟨ev, rfl, herr, b2⟩
  obtain rfl : ev = .nilIface := by
    rcases herr with ⟨_, rfl⟩ | ⟨h0, _⟩
    · rfl
    · simp at h0
  have S2 := hide ((unhide S1).below b2)
  have B2 := hide ((unhide B1).trans (b2.mono s1))
  have s2 := b2.size
  clear herr b2 BY
  have HME := fun ws => mend_none (.pointer (some ⟨p, 0, none⟩)) ws g a w2 (unhide S2)
  have HME' := hide HME
  clear HME
  by_cases h0 : ao = none
  · subst h0
    have hc0 := hnone rfl
    subst hc0
    have hn0 : n = 0 := by omega
    subst hn0
    clear hnone
    go_wp2_with fail
    refine ((unhide HME') _).mono ?_
    rintro e w3 ⟨rfl, rfl⟩
    go_wp2
    go_ret2
    have hb2 := unhide B2
    have hb3 : ∀ o, Below w0.heap.size w0 (w3.alloc o) := fun o => hb2.trans (((Below.refl _ w3).alloc (Nat.le_refl _) _).mono hb2.size)
    exact ⟨w3.heap.size, rfl, Nat.le_trans s1 s2, ⟨Nat.le_trans hb (Nat.le_trans s1 s2), heap_alloc_new w3 _, (unhide H).below (hb3 _)⟩, hb3 _⟩
  · obtain ⟨ad, rfl⟩ : ∃ ad, ao = some ad := by
      cases ao with
      | none => exact absurd rfl h0
      | some ad => exact ⟨ad, rfl⟩
    clear h0 hnone
    go_wp2_with fail
    refine ((unhide HME') _).mono ?_
    rintro e w3 ⟨rfl, rfl⟩
    go_wp2
    go_ret2
    have hb2 := unhide B2
    have hb3 : ∀ o, Below w0.heap.size w0 (w3.alloc o) := fun o => hb2.trans (((Below.refl _ w3).alloc (Nat.le_refl _) _).mono hb2.size)
    exact ⟨w3.heap.size, rfl, Nat.le_trans s1 s2, ⟨Nat.le_trans hb (Nat.le_trans s1 s2), heap_alloc_new w3 _, (unhide H).below (hb3 _)⟩, hb3 _⟩

/-- what Open answers: a log, or none. -/
def OpenAns (base : Nat) (w w' : World) (p : Nat) (q' : Option Nat) (s1 : St) (n c : Nat) (lv : Value) : Prop := (c = 0 ∧ ∃ l, lv = .pointer (some ⟨l, 0, none⟩) ∧ w.heap.size ≤ l ∧ Lg base w' l p q' s1 n) ∨ (c ≠ 0 ∧ lv = .pointer none)
set_option maxRecDepth 20000 in
set_option maxHeartbeats 1000000 in
/-- a part of a record stands behind the whole ones. -/
theorem open_part (base p : Nat) (q : Option Nat) (s : St) (g a : Addr) (w : World) (h : Tp base w p q s) (hS : Start w g a) (hb : base ≤ w.heap.size) (ho : s.ops ≤ 4611686018427387904) (hle : s.left ≤ 9223372036854775807) (hd : s.dead = false) (xs : List (List Nat)) (hx : Fit xs) (r : List Nat) (hr : frameOf r = (0, none)) (hr0 : r ≠ []) (hbs : s.bs = cats xs ++ r) (n : Nat) (hn : takes xs = n) (hroom : s.room ≤ 1000000000)
    (c : Nat) (s1 : St) (hrep : s.replace (cats xs) = (c, s1)) :
    Calls Tryd.prog 11 #[.pointer (some ⟨p, 0, none⟩)] w fun e w' => ∃ q' lv, e = .returned (.tuple #[lv, .int .i64 (c : Int)]) ∧ OpenAns base w w' p q' s1 n c lv ∧ Tp base w' p q' s1 ∧ Kept base (fun k => k = p) w w' ∧ Fresh w q q' := by
  have HC := hide (dead_any base p q s w h)
  rw [hd] at HC
  obtain ⟨m, hm⟩ : ∃ m, s.bs.length = m := ⟨_, rfl⟩
  have hmb : m ≤ 1000000000 := by have h6 := h.fits; omega
  have hnm : n < m := by
    have : r.length ≠ 0 := fun e => hr0 (List.eq_nil_of_length_eq_zero e)
    rw [← hm, hbs, List.length_append, cats_len, hn]; omega
  have HC2 := hide (bytes_own base p q s s.bs m rfl hm w h)
  have HSP := hide (split_cats hx hr)
  rw [← hbs, hn] at HSP
  have ht : s.bs.take n = cats xs := by rw [hbs, List.take_append_of_le_length (by rw [cats_len, hn]; omega), List.take_of_length_le (by rw [cats_len, hn]; omega)]
  have hln : (cats xs).length = n := (cats_len xs).trans hn
  have HL := hide hln
  have HT := hide ht
  have H := hide h
  have HS := hide hS
  have HM := hide hm
  have HREP := hide hrep
  clear h hS hx hbs hn hm hd hr hr0 ht hln hrep
  go_enter Tryd.func11, Tryd.ntmps11
  go_wp2_with fail
  refine (unhide HC).mono ?_
  rintro e w0 ⟨rfl, rfl⟩
  go_wp2_with fail
  refine (unhide HC2).mono ?_
  rintro e w1 ⟨ao, cap, rfl, o1, b1⟩
  obtain ⟨ao', cap', e', hc, _, by1, hnone, hfar⟩ := o1.slice
  rw [unhide HM] at hc
  obtain ⟨rfl, hxx, rfl⟩ : ao = ao' ∧ m = s.bs.length ∧ cap = cap' := by simpa using e'
  clear hxx
  obtain ⟨ad, rfl⟩ : ∃ ad, ao = some ad := by
    cases ao with
    | none => have := hnone rfl; omega
    | some ad => exact ⟨ad, rfl⟩
  have hblk := (hfar ad rfl).1
  have BY := hide by1
  have B1 := hide b1
  have S1 := hide ((unhide HS).below b1)
  have s1' := b1.size
  have hplt := (unhide H).lt.2.1
  clear e' o1 b1 by1 HC HC2 hnone hfar
  go_wp2_with fail
  refine (wholeSize_any (some ad) m cap s.bs (unhide HM) xs n (unhide HSP) (by omega) g a w1 (unhide BY) hc (by omega) (unhide S1)).mono ?_
  rintro e w2 ⟨ev, rfl, herr, b2⟩
  obtain ⟨b, rfl, hpart⟩ : ∃ b, ev = .iface 74 (.pointer (some ⟨b, 0, none⟩)) ∧ Part w2 a b := by
    rcases herr with ⟨h0, _⟩ | ⟨_, b, h1, h2⟩
    · simp at h0; omega
    · exact ⟨b, h1, h2⟩
  have BY2 := hide (((unhide BY).below b2).take n)
  rw [unhide HT] at BY2
  have B2 := hide ((unhide B1).trans (b2.mono s1'))
  have s2 := b2.size
  have HME := mend_part base p q s b (some ad) n cap (cats xs) (unhide HL) g a w2 ((unhide S1).below b2) hpart ((unhide H).below (unhide B2)) (by omega) ho hle (fun w' k => (unhide BY2).far k (fun x e e2 => by cases e; omega)) (by omega)
  rw [unhide HREP] at HME
  have HME' := hide HME
  clear herr b2 HME hpart
  go_wp2_with fail
  refine (unhide HME').mono ?_
  rintro e w3 ⟨q', rfl, t3, k3, f3⟩
  have T3 := hide t3
  have K3 : Hid (Kept base (fun k => k = p) w0 w3) := (Kept.of_below (f := fun k => k = p) (unhide B2) hb).trans k3 (fun _ _ x => x)
  have F3 := hide (f3.mono (unhide B2).size)
  have s3 := k3.size
  clear t3 k3 f3 HME'
  by_cases hc0 : c = 0
  · subst hc0
    go_wp2
    go_ret2
    have hb3 : ∀ o, Below w3.heap.size w3 (w3.alloc o) := fun o => (Below.refl _ w3).alloc (Nat.le_refl _) _
    exact ⟨q', _, rfl, Or.inl ⟨rfl, w3.heap.size, rfl, by omega, ⟨by omega, heap_alloc_new w3 _, (unhide T3).below (hb3 _)⟩⟩, (unhide T3).below (hb3 _), (unhide K3).alloc (by omega) _, unhide F3⟩
  · have hcz : ((c : Int) == 0) = false := by simp; omega
    go_wp2
    go_ret2
    exact ⟨q', _, rfl, Or.inr ⟨hc0, rfl⟩, unhide T3, unhide K3, unhide F3⟩
end Go.Proofs.YtbfepfpocgijgaaDoor
