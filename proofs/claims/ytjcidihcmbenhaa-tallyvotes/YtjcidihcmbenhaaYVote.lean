/- tally's Votes: slices.Clone, New, who, Won, Lost: contracts. -/
import Derived.Test.YtjcidihcmbenhaaYMap
import Derived.Test.YtjcidihcmbenhaaYLast
import Derived.Test.YtjcidihcmbenhaaKMost
import Derived.Deep.RegionHeldLaw
namespace Go.Proofs.Ytjcidihcmbenhaa
open Go.RowKit Go.Maps

theorem empty_ints (w : World) : Ir w.heap.size (w.alloc (.cells #[] 3)) (.slice (some ⟨w.heap.size, 0, none⟩) 0 0) [] := by
  refine ⟨rfl, Or.inr ⟨w.heap.size, 0, #[], rfl, Nat.le_refl _, heap_alloc_new _ _, ?_⟩⟩
  simp [maxLen, i64s]
set_option maxRecDepth 20000 in
set_option maxHeartbeats 1000000 in
theorem clone_any (ao : Option Addr) (n c : Nat) (ys : List Int) (hn : ys.length = n) (hl : n ≤ 1000000) (w : World) (h : IntsR w ao ys) :
    Calls Try.prog 35 #[.slice ao n c] w fun e w' => ∃ v, e = .returned v ∧ Ir w.heap.size w' v ys ∧ Below w.heap.size w w' := by
  cases ao with
  | none =>
    obtain rfl := h.none_nil
    obtain rfl : n = 0 := hn.symm
    clear h
    have hq := @Lib.run_eql_slice_nil Try.prog
    go_enter Try.func35, Try.ntmps35
    go_wp2
    go_ret
    exact ⟨_, rfl, Ir.nil _ _, Below.refl _ _⟩
  | some a =>
    obtain ⟨W1, hW1⟩ : ∃ W1, w.alloc (.cells #[] 3) = W1 := ⟨_, rfl⟩
    have c1 : Below w.heap.size w W1 := by rw [← hW1]; exact (Below.refl _ w).alloc (Nat.le_refl _) _
    have o1 : Ir w.heap.size W1 (.slice (some ⟨w.heap.size, 0, none⟩) 0 0) [] := by rw [← hW1]; exact empty_ints w
    have C1 := hide c1
    have O1 := hide o1
    have HW1 := hide hW1
    have H := hide (h.below c1)
    have EN := hide hn
    have sz := c1.size
    have hq := @Lib.run_eql_slice_nil Try.prog
    clear c1 o1 hW1 h hn
    go_enter Try.func35, Try.ntmps35
    go_wp2_with (at_builtin; rw [unhide HW1]; refine wpList_app rfl (.tmp 5) (.tmp 6) rfl w.heap.size _ [] rfl (unhide O1) (some a) n c ys rfl (unhide EN) (unhide H) (by simp; omega) sz ?_)
    intro v' w' own' g'
    have OWN := hide own'
    have B' := hide ((unhide O1).grown g' (unhide C1) sz)
    clear own' g'
    go_wp2
    go_ret
    exact ⟨_, rfl, by simpa using unhide OWN, unhide B'⟩

/-! ### votes in memory -/
theorem three_cells {w : World} {B : Nat} {x y z : Value} {t : TypeId} {fr : Nat × Nat} (h : w.heap[B]? = some (.cells #[x, y, z] t fr)) : w.cell? ⟨B, 0, none⟩ = some x ∧ w.cell? ⟨B, 1, none⟩ = some y ∧ w.cell? ⟨B, 2, none⟩ = some z := by
  refine ⟨?_, ?_, ?_⟩ <;> simp [World.cell?, h]
/-- all of a slice's numbers lie below a block. -/
def Lo (B : Nat) (ao : Option Addr) (ys : List Int) : Prop := ys ≠ [] → ∀ a, ao = some a → a.block < B
theorem Fr.lo {w : World} {ao : Option Addr} {ys : List Int} (h : Fr w ao ys) {B : Nat} (hB : w.heap.size ≤ B) : Lo B ao ys := fun hne a ha => by
  obtain ⟨a', e, hc⟩ := h.1 0 (List.length_pos_iff.2 hne)
  rw [ha] at e; cases e
  have := blk_lt hc
  rw [add_block] at this; omega
/-- votes at block p, what was said in the map at block b; B: all of it lies below that block. -/
def Vt (B : Nat) (w : World) (p b : Nat) (old new : List Int) (f : Int → Option Int) (c : Nat) : Prop :=
  ∃ ao no co an nn cn, w.heap[p]? = some (.cells #[.slice ao no co, .slice an nn cn, .map (some b)] 68 (0, 0)) ∧ old.length = no ∧ new.length = nn ∧ Fr w ao old ∧ Fr w an new ∧ Lo B ao old ∧ Lo B an new ∧ Mp 70 w b f c ∧ p < B ∧ b < B
theorem Vt.below {B : Nat} {w w' : World} {p b : Nat} {old new : List Int} {f : Int → Option Int} {c : Nat} (h : Vt B w p b old new f c) (hb : Below w.heap.size w w') : Vt B w' p b old new f c := by
  obtain ⟨ao, no, co, an, nn, cn, h1, h2, h3, h4, h5, h6, h7, h8, h9, h10⟩ := h
  exact ⟨ao, no, co, an, nn, cn, Below.stay hb h1, h2, h3, h4.below hb, h5.below hb, h6, h7, h8.below hb, h9, h10⟩
theorem Vt.mono {B B' : Nat} {w : World} {p b : Nat} {old new : List Int} {f : Int → Option Int} {c c' : Nat} (h : Vt B w p b old new f c) (hB : B ≤ B') (hc : c ≤ c') : Vt B' w p b old new f c' := by
  obtain ⟨ao, no, co, an, nn, cn, h1, h2, h3, h4, h5, h6, h7, ⟨D, e1, e2, e3⟩, h9, h10⟩ := h
  exact ⟨ao, no, co, an, nn, cn, h1, h2, h3, h4, h5, fun h a ha => Nat.lt_of_lt_of_le (h6 h a ha) hB, fun h a ha => Nat.lt_of_lt_of_le (h7 h a ha) hB, ⟨D, e1.mono hc, e2, e3⟩, by omega, by omega⟩

theorem containsV (ao : Option Addr) (n c : Nat) (xs : List Int) (hn : xs.length = n) (hl : n ≤ 1000000) (x : Int) (w : World) (h : Fr w ao xs) :
    Calls Try.prog 49 #[.slice ao n c, .int .i64 x] w fun e w' => e = .returned (.bool (xs.contains x)) ∧ Below w.heap.size w w' := by
  rcases h.at with rfl | ⟨b, off, rfl, hc⟩
  · obtain rfl : n = 0 := hn.symm
    refine (AnyG.slices_Contains_int_empty Try.contV ao c x w).mono ?_
    rintro e w' ⟨rfl, rfl⟩
    exact ⟨rfl, Below.refl _ _⟩
  · refine (AnyG.slices_Contains_int Try.contV b off n c xs x w (by omega) (by omega) hc).mono ?_
    rintro e w' ⟨rfl, rfl⟩
    rw [List.take_of_length_le (by omega)]
    exact ⟨rfl, Below.refl _ _⟩

set_option maxRecDepth 20000 in
set_option maxHeartbeats 2000000 in
theorem who_any {B : Nat} {p b : Nat} {old new : List Int} {f : Int → Option Int} {c : Nat} (av : Option Addr) (nv cv : Nat) (vs : List Int) (hv : vs.length = nv) (hlv : nv ≤ 1000) (w : World) (h : Vt B w p b old new f c) (hO : old.length ≤ 1000) (hN : new.length ≤ 1000) (hwm : ∀ x ∈ ris (old ++ new), wf64 x) (hV : Fr w av vs) :
    Calls Try.prog 39 #[.pointer (some ⟨p, 0, none⟩), .slice av nv cv] w fun e w' => ∃ v, e = .returned v ∧ Ir w.heap.size w' v ((ris (old ++ new)).filter fun id => vs.contains ((f id).getD 0)) ∧ Below w.heap.size w w' := by
  obtain ⟨ao, no, co, an, nn, cn, h1, h2, h3, h4, h5, -, -, h8, -, -⟩ := h
  have ME := hide (members_any ao an no nn co cn old new h2 h3 (by omega) (by omega) w h4.1 h5.1)
  obtain ⟨c0, c1, c2⟩ := three_cells h1
  have SX := hide (fun (Y : World) (h : Below w.heap.size w Y) => (three_cells (Below.stay h h1)).2.2)
  have HF := hide (fun (Y : World) (h : Below w.heap.size w Y) => h8.below h)
  have CV := hide (fun (Y : World) (h : Below w.heap.size w Y) (x : Int) => containsV av nv cv vs hv (by omega) x Y (hV.below h))
  have WM := hide hwm
  obtain ⟨M, hM⟩ : ∃ M, ris (old ++ new) = M := ⟨_, rfl⟩
  rw [hM] at ME WM
  rw [hM]
  obtain ⟨q, hq⟩ : ∃ q : Int → Bool, (fun id => vs.contains ((f id).getD 0)) = q := ⟨_, rfl⟩
  rw [hq]
  have HQ : Hid (∀ y, vs.contains ((f y).getD 0) = q y) := fun y => by rw [← hq]
  clear h1 h2 h3 h4 h5 h8 hM hq hwm hV hv
  go_enter Try.func39, Try.ntmps39
  go_wp2_with fail
  refine (unhide ME).mono ?_
  rintro e w1 ⟨am, m, cm, rfl, hm, -, hml, fm, b1⟩
  have EM := hide hm
  have FM := hide fm.1
  have B1 := hide b1
  clear hm fm b1 ME c0 c1 c2
  go_wp2_with fail
  go_loopw [14, 5, 7] (fun i s _ wr => ∃ (k : Nat), k ≤ m ∧ i = .int .i64 k ∧ Ir w1.heap.size wr s ((M.take k).filter q) ∧ Below w1.heap.size w1 wr) (fun i _ _ _ => m - (intOf i).toNat)
  case atStart => exact ⟨0, Nat.zero_le _, rfl, by simp; exact Ir.nil _ _, Below.refl _ _⟩
  case round =>
    obtain ⟨k, hk, rfl, hown, hbel1⟩ := hrel
    have hbel := (unhide B1).trans (hbel1.mono (unhide B1).size)
    have hlen : ((M.take k).filter q).length ≤ k := Nat.le_trans (List.length_filter_le _ _) (by rw [List.length_take]; omega)
    have BEL := hide hbel
    have BEL1 := hide hbel1
    have HO := hide hown
    have sz := hbel1.size
    by_cases hlt : k < m
    · obtain ⟨a1, rfl, hc1⟩ := ((unhide FM).below hbel1) k (by rw [unhide EM]; exact hlt)
      have qk : (k : Int) < m := by omega
      have YES := hide (filter_yes (M := M) (p := q) (k := k) (by rw [unhide EM]; exact hlt))
      have NO := hide (filter_no (M := M) (p := q) (k := k) (by rw [unhide EM]; exact hlt))
      have wx := unhide WM _ (mem_getD (xs := M) (k := k) (by rw [unhide EM]; exact hlt))
      obtain ⟨id, hxk⟩ : ∃ id, M.getD k 0 = id := ⟨_, rfl⟩
      rw [hxk] at hc1 YES NO wx
      have lk := (unhide HF _ hbel).look Try.underlying66 Try.underlying70 zeroV wx
      have PY := unhide HQ id
      obtain ⟨y, hy⟩ : ∃ y, (f id).getD 0 = y := ⟨_, rfl⟩
      rw [hy] at lk PY
      have CC := hide (unhide CV _ hbel y)
      rw [PY] at CC
      have c2 := unhide SX _ hbel
      obtain ⟨l, hll⟩ : ∃ l, (M.take k).filter q = l := ⟨_, rfl⟩
      rw [hll] at HO YES NO hlen
      obtain ⟨r, hr⟩ : ∃ r, q id = r := ⟨_, rfl⟩
      rw [hr] at CC YES NO
      clear hown hxk hy hll wx PY hbel hbel1 hr
      go_wp2_with fail
      refine (unhide CC).mono ?_
      rintro e w2 ⟨rfl, b2⟩
      have B2 := hide ((unhide BEL1).trans (b2.mono sz))
      have O2 := hide ((unhide HO).below b2)
      have s2 := (unhide B2).size
      clear b2 CC lk hc1 c2
      cases r
      · have N1 := hide (unhide NO rfl)
        clear YES NO hlen
        go_wp2
        go_roundw
        case rel => exact ⟨k + 1, by omega, by go_num, by rw [unhide N1]; exact unhide O2, unhide B2⟩
        case measure => simp [intOf]; omega
      · have N1 := hide (unhide YES rfl)
        have HLN : Hid (l.length + 1 ≤ 1000000000) := by show _ ≤ _; omega
        clear YES NO hlen
        go_wp2_with (at_builtin; refine wpList_app rfl (.tmp 26) (.tmp 28) rfl w1.heap.size _ l rfl ((unhide O2).below ((Below.refl _ _).alloc (Nat.le_refl _) _)) (some ⟨w2.heap.size, 0, none⟩) 1 1 [id] rfl rfl (one_int _ _) (unhide HLN) (by simp; omega) ?_)
        intro v' w' own' g'
        have OWN := hide own'
        have B' := hide (((unhide O2).below ((Below.refl _ _).alloc (Nat.le_refl _) (.cells #[.int .i64 id] 3))).grown g' ((unhide B2).alloc s2 _) (by simp; omega))
        clear own' g'
        go_wp2
        go_roundw
        case rel => exact ⟨k + 1, by omega, by go_num, by rw [unhide N1]; exact unhide OWN, unhide B'⟩
        case measure => simp [intOf]; omega
    · obtain rfl : k = m := by omega
      have et : M.take k = M := by rw [← unhide EM, List.take_length]
      rw [et] at HO
      clear hown hlen hbel hbel1
      go_wp2
      go_ret
      exact ⟨_, rfl, (unhide HO).rebase (unhide B1).size, unhide BEL⟩
end Go.Proofs.Ytjcidihcmbenhaa
