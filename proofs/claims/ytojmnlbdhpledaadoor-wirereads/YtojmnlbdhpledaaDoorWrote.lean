/- What can be read is written as it stood, plainly. What can be read is written as it stood: entries, configurations, messages. -/
import Derived.Test.YtojmnlbdhpledaaDoorReadPure
import Derived.Test.YtojmnlbdhpledaaDoorReader
namespace Go.Proofs.YtojmnlbdhpledaaDoor
open Go.RowKit

/-- what was read without a flaw stood there as these bytes. -/
def Wro {α : Type} (R : RF α) (C : α → List Nat → Prop) : Prop := ∀ (bs : List Nat) (s : Nat × Nat), (∀ x ∈ bs, x < 256) → (R bs s).2.2 = 0 → s.2 = 0 ∧ ∃ c, C (R bs s).1 c ∧ (R bs s).2.1 = s.1 + c.length ∧ (bs.drop s.1).take c.length = c
theorem wro_ret {α : Type} (v : α) : Wro (retR v) (fun u c => u = v ∧ c = []) := fun bs s _ h => ⟨h, [], ⟨rfl, rfl⟩, rfl, by simp⟩
theorem wro_bind {α β : Type} {R : RF α} {F : α → RF β} {C1 : α → List Nat → Prop} {C2 : α → β → List Nat → Prop} (h1 : Wro R C1) (h2 : ∀ a, Wro (F a) (C2 a)) : Wro (bindR R F) (fun b c => ∃ a c1 c2, C1 a c1 ∧ C2 a b c2 ∧ c = c1 ++ c2) := fun bs s hb h => by
  obtain ⟨k1, c2, k2, k3, k4⟩ := h2 (R bs s).1 bs (R bs s).2 hb h
  obtain ⟨m1, c1, m2, m3, m4⟩ := h1 bs s hb k1
  refine ⟨m1, c1 ++ c2, ⟨_, c1, c2, m2, k2, rfl⟩, ?_, ?_⟩
  · show (F (R bs s).1 bs (R bs s).2).2.1 = _
    rw [k3, m3, List.length_append]; omega
  · rw [List.length_append, List.take_add, m4, List.drop_drop]
    rw [m3] at k4
    rw [k4]
theorem wro_mono {α : Type} {R : RF α} {C D : α → List Nat → Prop} (h : Wro R C) (hd : ∀ v c, C v c → D v c) : Wro R D := fun bs s hb h0 => by
  obtain ⟨k1, c, k2, k3⟩ := h bs s hb h0
  exact ⟨k1, c, hd _ _ k2, k3⟩
theorem wro_take (k : Nat) : Wro (takeR k) (fun v c => v = c ∧ c.length = k ∧ ∀ x ∈ c, x < 256) := fun bs s hb h => by
  have h' : (rtake bs.length k s).2 = 0 := h
  have hs : s.2 = 0 := by
    by_cases hs : s.2 = 0
    · exact hs
    · rw [rtake_stay _ _ _ hs] at h'; exact h'
  by_cases hc : bs.length - s.1 < k
  · exfalso
    unfold rtake at h'
    rw [if_neg (by simpa using hs), if_pos hc] at h'
    cases h'
  · have e1 : rtake bs.length k s = (s.1 + k, 0) := by unfold rtake; rw [if_neg (by simpa using hs), if_neg hc]
    have e2 : taken bs k s = (bs.drop s.1).take k := by unfold taken; rw [e1, if_pos rfl]
    have e3 : ((bs.drop s.1).take k).length = k := by rw [List.length_take, List.length_drop]; omega
    refine ⟨hs, (bs.drop s.1).take k, ⟨e2, e3, fun x hx => hb x (List.mem_of_mem_drop (List.mem_of_mem_take hx))⟩, ?_, by rw [e3]⟩
    show (rtake bs.length k s).1 = _
    rw [e1, e3]
theorem be8_back {a b c d e f g h : Nat} (ha : a < 256) (hb : b < 256) (hc : c < 256) (hd : d < 256) (he : e < 256) (hf : f < 256) (hg : g < 256) (hh : h < 256) : be8 (joinTo 0 [a, b, c, d, e, f, g, h]) = [a, b, c, d, e, f, g, h] ∧ joinTo 0 [a, b, c, d, e, f, g, h] < 18446744073709551616 := by
  have hj : joinTo 0 [a, b, c, d, e, f, g, h] = a * 72057594037927936 + b * 281474976710656 + c * 1099511627776 + d * 4294967296 + e * 16777216 + f * 65536 + g * 256 + h := by
    simp only [joinTo, List.foldl]; omega
  rw [hj]
  refine ⟨?_, by omega⟩
  unfold be8
  congr 1
  · omega
  congr 1
  · omega
  congr 1
  · omega
  congr 1
  · omega
  congr 1
  · omega
  congr 1
  · omega
  congr 1
  · omega
  congr 1
  omega
theorem num8_back {c : List Nat} (hl : c.length = 8) (hb : ∀ x ∈ c, x < 256) : num8 (wrap64 ((joinTo 0 c : Nat) : Int)) = c := by
  match c, hl with
  | [a, b, d, e, f, g, h, i], _ =>
    obtain ⟨h1, h2⟩ := be8_back (hb a (by simp)) (hb b (by simp)) (hb d (by simp)) (hb e (by simp)) (hb f (by simp)) (hb g (by simp)) (hb h (by simp)) (hb i (by simp))
    generalize joinTo 0 [a, b, d, e, f, g, h, i] = N at *
    unfold num8
    have : (wrap64 (N : Int) % 18446744073709551616).toNat = N := by unfold wrap64; omega
    rw [this]; exact h1
theorem wro_int : Wro intR (fun v c => c = num8 v) := by
  rw [intR_bind]
  refine wro_mono (wro_bind (wro_take 8) fun a => wro_ret _) ?_
  rintro v c ⟨a, c1, c2, ⟨rfl, hl, hb⟩, ⟨rfl, rfl⟩, rfl⟩
  rw [List.append_nil, num8_back hl hb]
theorem wro_rule (q : Nat) : Wro (ruleR q) (fun v c => c = [v] ∧ refuse q v = 0) := fun bs s hb h => by
  have h' : (rrule bs q s).2.2 = 0 := h
  have hr : refuse q (joinTo 0 (taken bs 1 s) : Nat) = 0 := by
    by_cases hr : refuse q (joinTo 0 (taken bs 1 s) : Nat) = 0
    · exact hr
    · exfalso
      unfold rrule at h'
      rw [if_neg hr] at h'
      simp only at h'
      split at h'
      · exact hr h'
      · rename_i hh; exact hh h'
  have er : rrule bs q s = (joinTo 0 (taken bs 1 s), rtake bs.length 1 s) := by unfold rrule; rw [if_pos hr]
  rw [er] at h'
  obtain ⟨k1, c, ⟨k2, k3, k4⟩, k5, k6⟩ := wro_take 1 bs s hb h'
  have k2' : taken bs 1 s = c := k2
  match c, k3 with
  | [x], _ =>
    have ej : joinTo 0 (taken bs 1 s) = x := by rw [k2']; simp [joinTo]
    rw [ej] at hr er
    refine ⟨k1, [x], ⟨?_, ?_⟩, ?_, k6⟩
    · show [x] = [(rrule bs q s).1]; rw [er]
    · show refuse q ((rrule bs q s).1 : Nat) = 0; rw [er]; exact hr
    · show (rrule bs q s).2.1 = _; rw [er]; exact k5
theorem wro_text : Wro textR (fun v c => c = [v.length] ++ v ∧ refuse 4 v.length = 0 ∧ ∀ x ∈ v, x < 256) := by
  have h := wro_bind (wro_rule 4) wro_take
  refine wro_mono (R := textR) h ?_
  rintro v c ⟨a, c1, c2, ⟨rfl, hr⟩, ⟨rfl, hl, hb⟩, rfl⟩
  rw [hl]; exact ⟨rfl, hr, hb⟩
theorem wro_loop {α : Type} {R : RF α} {C : α → List Nat → Prop} (h : Wro R C) : ∀ k, Wro (loopR R k) (fun ys c => ∃ cs : List (List Nat), ys.length = k ∧ cs.length = k ∧ c = cs.flatten ∧ ∀ (i : Nat) (y : α) (d : List Nat), ys[i]? = some y → cs[i]? = some d → C y d)
  | 0 => fun bs s _ h0 => ⟨h0, [], ⟨[], rfl, rfl, rfl, fun i y d hy => by simp [loopR, retR] at hy⟩, rfl, by simp⟩
  | k + 1 => fun bs s hb h0 => by
    have e1 : loopR R (k + 1) bs s = ((loopR R k bs s).1 ++ [(R bs (loopR R k bs s).2).1], (R bs (loopR R k bs s).2).2) := rfl
    rw [e1] at h0 ⊢
    obtain ⟨k1, c2, k2, k3, k4⟩ := h bs _ hb h0
    obtain ⟨m1, c1, ⟨cs, n1, n2, n3, n4⟩, m3, m4⟩ := wro_loop h k bs s hb k1
    refine ⟨m1, c1 ++ c2, ⟨cs ++ [c2], by simp [n1], by simp [n2], by simp [n3], fun i y d hy hd => ?_⟩, ?_, ?_⟩
    · by_cases hi : i < k
      · rw [List.getElem?_append_left (by omega)] at hy hd
        exact n4 i y d hy hd
      · rw [List.getElem?_append_right (by omega)] at hy hd
        rw [n1] at hy
        rw [n2] at hd
        obtain ⟨j, hj⟩ : ∃ j, i - k = j := ⟨_, rfl⟩
        rw [hj] at hy hd
        cases j with
        | zero =>
          simp at hy hd
          rw [← hy, ← hd]; exact k2
        | succ j => simp at hy
    · show (R bs (loopR R k bs s).2).2.1 = _
      rw [k3, m3, List.length_append]; omega
    · rw [List.length_append, List.take_add, m4, List.drop_drop]
      rw [m3] at k4
      rw [k4]
theorem flat_map {α : Type} (f : α → List Nat) : ∀ (ys : List α) (cs : List (List Nat)), ys.length = cs.length → (∀ (i : Nat) (y : α) (d : List Nat), ys[i]? = some y → cs[i]? = some d → d = f y) → cs = ys.map f
  | [], [], _, _ => rfl
  | y :: ys, d :: cs, hl, h => by
    rw [List.map_cons, h 0 y d rfl rfl, flat_map f ys cs (by simpa using hl) (fun i y d hy hd => h (i + 1) y d (by simpa using hy) (by simpa using hd))]
theorem wro_list (q : Nat) : Wro (listR q) (fun ys c => c = [ys.length] ++ nums ys ∧ refuse q ys.length = 0) := by
  rw [listR_bind]
  refine wro_mono (wro_bind (wro_rule q) fun a => wro_loop wro_int a) ?_
  rintro ys c ⟨a, c1, c2, ⟨rfl, hr⟩, ⟨cs, h1, h2, rfl, h4⟩, rfl⟩
  have := flat_map num8 ys cs (by omega) (fun i y d hy hd => h4 i y d hy hd)
  rw [h1]
  refine ⟨?_, hr⟩
  rw [this]; rfl
end Go.Proofs.YtojmnlbdhpledaaDoor
namespace Go.Proofs.YtojmnlbdhpledaaDoor
open Go.RowKit

def Ent.en (x : Ent) : En := ⟨x.kind, x.client, x.seq, str x.data, x.members, x.to'⟩
theorem bytes_str {d : List Nat} (h : ∀ x ∈ d, x < 256) : bytesOf (str d) = d := by
  unfold bytesOf str strOfNums
  simp only [List.map_map]
  refine (List.map_congr_left (g := id) fun x hx => ?_).trans (List.map_id d)
  have := h x hx
  simp [Function.comp]
  omega
theorem wro_entry : Wro entryR (fun x c => c = x.en.bytes ∧ x.en.ok) := by
  rw [entryR_bind]
  refine wro_mono (wro_bind (wro_rule 0) fun _ => wro_bind wro_int fun _ => wro_bind wro_int fun _ => wro_bind wro_text fun _ => wro_bind (wro_list 5) fun _ => wro_bind (wro_rule 1) fun _ => wro_ret _) ?_
  rintro x c ⟨k, _, _, ⟨rfl, hk⟩, ⟨cl, _, _, rfl, ⟨sq, _, _, rfl, ⟨d, _, _, ⟨rfl, hd, hb⟩, ⟨m, _, _, ⟨rfl, hm⟩, ⟨t, _, _, ⟨rfl, ht⟩, ⟨rfl, rfl⟩, rfl⟩, rfl⟩, rfl⟩, rfl⟩, rfl⟩, rfl⟩
  refine ⟨?_, ⟨hk, ?_, hm, ht⟩⟩
  · simp [En.bytes, Ent.en, str_size, bytes_str hb]
  · show refuse 4 ((str d).size : Nat) = 0
    rw [str_size]; exact hd
theorem wro_entries : Wro entriesR (fun xs c => c = entsBytes (xs.map Ent.en) ∧ refuse 6 (xs.map Ent.en).length = 0 ∧ ∀ e ∈ xs.map Ent.en, e.ok) := by
  rw [entriesR_bind]
  refine wro_mono (wro_bind (wro_rule 6) fun a => wro_loop wro_entry a) ?_
  rintro xs c ⟨a, _, _, ⟨rfl, hr⟩, ⟨cs, h1, h2, rfl, h4⟩, rfl⟩
  have e1 := flat_map (fun y : Ent => y.en.bytes) xs cs (by omega) (fun i y d hy hd => (h4 i y d hy hd).1)
  refine ⟨?_, by rw [List.length_map, h1]; exact hr, fun e he => ?_⟩
  · unfold entsBytes
    rw [List.length_map, h1, e1, List.map_map]; rfl
  · obtain ⟨x, hx, rfl⟩ := List.mem_map.1 he
    obtain ⟨i, hi⟩ := List.getElem?_of_mem hx
    have hlt := (List.getElem?_eq_some_iff.1 hi).1
    exact (h4 i x _ hi (List.getElem?_eq_getElem (by omega))).2
theorem wro_config : Wro configR (fun v c => c = confBytes v.1 v.2 ∧ refuse 5 v.1.length = 0 ∧ refuse 5 v.2.length = 0) := by
  rw [configR_bind]
  refine wro_mono (wro_bind (wro_list 5) fun _ => wro_bind (wro_list 5) fun _ => wro_ret _) ?_
  rintro v c ⟨xs, _, _, ⟨rfl, hx⟩, ⟨ys, _, _, ⟨rfl, hy⟩, ⟨rfl, rfl⟩, rfl⟩, rfl⟩
  exact ⟨rfl, hx, hy⟩
def Mes.mg (x : Mes) : Mg := ⟨x.src, x.to', x.gen, x.kind, x.term, x.index, x.last, x.commit, x.yes, x.terms, x.ents.map Ent.en, x.cold, x.cnew⟩
theorem bit_back {y : Nat} (h : refuse 3 (y : Int) = 0) : (bitOf (((y : Nat) : Int) == 1)).toNat = y := by
  have h1 : y ≤ 1 := by
    unfold refuse rule at h
    simp only at h
    split at h
    · cases h
    · omega
  match y, h1 with
  | 0, _ => rfl
  | 1, _ => rfl
theorem wro_msg : Wro msgR (fun x c => c = x.mg.bytes ∧ x.mg.ok) := by
  rw [msgR_bind]
  refine wro_mono (wro_bind wro_int fun _ => wro_bind wro_int fun _ => wro_bind wro_int fun _ => wro_bind (wro_rule 2) fun _ => wro_bind wro_int fun _ => wro_bind wro_int fun _ => wro_bind wro_int fun _ => wro_bind wro_int fun _ => wro_bind (wro_rule 3) fun _ => wro_bind (wro_list 6) fun _ => wro_bind wro_entries fun _ => wro_bind wro_config fun _ => wro_ret _) ?_
  rintro x c ⟨a1, _, _, rfl, ⟨a2, _, _, rfl, ⟨a3, _, _, rfl, ⟨k, _, _, ⟨rfl, hk⟩, ⟨a5, _, _, rfl, ⟨a6, _, _, rfl, ⟨a7, _, _, rfl, ⟨a8, _, _, rfl, ⟨y, _, _, ⟨rfl, hy⟩, ⟨l, _, _, ⟨rfl, hl⟩, ⟨es, _, _, ⟨rfl, he, heo⟩, ⟨cf, _, _, ⟨rfl, ho, hn⟩, ⟨rfl, rfl⟩, rfl⟩, rfl⟩, rfl⟩, rfl⟩, rfl⟩, rfl⟩, rfl⟩, rfl⟩, rfl⟩, rfl⟩, rfl⟩, rfl⟩
  refine ⟨?_, ⟨hk, hl, he, ho, hn, heo⟩⟩
  simp only [Mg.bytes, Mes.mg, Int.toNat_natCast, bit_back hy]
/-- what ParseMsg takes is written as it stood. -/
theorem msg_wrote {bs : List Nat} (hb : ∀ x ∈ bs, x < 256) (h : (rend bs.length (rmsg bs (0, 0)).2).2 = 0) : (rmsg bs (0, 0)).1.mg.ok ∧ (rmsg bs (0, 0)).1.mg.put ([], 0) = (bs, 0) := by
  have h0 : (rmsg bs (0, 0)).2.2 = 0 ∧ ¬ (rmsg bs (0, 0)).2.1 < bs.length := by
    unfold rend at h
    split at h
    · simp only at h; split at h
      · cases h
      · rename_i hh; exact absurd h hh
    · exact ⟨h, by assumption⟩
  obtain ⟨_, c, ⟨k1, k2⟩, k3, k4⟩ := wro_msg bs (0, 0) hb h0.1
  have k3' : (rmsg bs (0, 0)).2.1 = 0 + c.length := k3
  have hc : c = bs := by
    have hl : (bs.take c.length).length = c.length := by
      have := congrArg List.length k4
      simpa using this
    rw [List.length_take] at hl
    have e : c.length = bs.length := by omega
    rw [← k4, e]
    simp
  have k2' : (rmsg bs (0, 0)).1.mg.ok := k2
  have k1' : (rmsg bs (0, 0)).1.mg.bytes = c := k1.symm
  refine ⟨k2', ?_⟩
  rw [put_ok k2', k1', hc]; rfl
end Go.Proofs.YtojmnlbdhpledaaDoor
