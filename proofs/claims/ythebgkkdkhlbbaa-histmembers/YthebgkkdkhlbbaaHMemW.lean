/- HistMembers: the walk. -/
import Derived.Test.YthebgkkdkhlbbaaHMemA
import Derived.Test.YthebgkkdkhlbbaaHWithin
import Derived.Test.YthebgkkdkhlbbaaKSameC
import Derived.Deep.RegionHeld3
import Derived.Deep.DrawnRows
namespace Go.Proofs.Ythebgkkdkhlbbaa
open Go.RowKit Go.Maps
attribute [local go_sem ↓] Go.wp_at_zero Go.wp_at_succ

abbrev rowK : Obj := .cells #[.int .i64 2, .int .i64 4, .int .i64 1] 3
abbrev boxZ : Obj := .cells #[.int .i64 0, .int .i64 0, .int .i64 0, .string ⟨#[]⟩, .slice none 0 0, .int .i64 0] 60
abbrev boxM (kd : Int) (mo : Option Addr) (z mc : Nat) : Obj := .cells #[.int .i64 kd, .int .i64 0, .int .i64 0, .string ⟨#[]⟩, .slice mo z mc, .int .i64 0] 60
def kindAt (r : Nat) : Int := if r = 0 then 2 else if r = 1 then 4 else 1

theorem box2 (z : World) (a b : Obj) : ((z.alloc a).alloc b).heap[z.heap.size]? = some a ∧ ((z.alloc a).alloc b).heap[z.heap.size + 1]? = some b ∧ Below z.heap.size z ((z.alloc a).alloc b) := by
  refine ⟨(Below.heap_alloc _ _ _ (by simp)).trans (box_at _ _), by have := box_at (z.alloc a) b; simpa using this, ((Below.refl _ z).alloc (Nat.le_refl _) a).alloc (by simp) b⟩
theorem ints_apart {w : World} {ao : Option Addr} {xs : List Int} (h : IntsR w ao xs) (hne : xs ≠ []) {B : Nat} {o1 o2 : Option Addr} {n1 n2 c1 c2 : Nat} {t : TypeId} {fr : Nat × Nat} (hB : w.heap[B]? = some (.cells #[.slice o1 n1 c1, .slice o2 n2 c2] t fr)) : ∀ a, ao = some a → a.block ≠ B := fun a ha hb => by
  obtain ⟨a', e, hc⟩ := h 0 (List.length_pos_iff.2 hne)
  rw [ha] at e; cases e
  have hh : w.heap[(a.add 0).block]? = some (.cells #[.slice o1 n1 c1, .slice o2 n2 c2] t fr) := by rw [add_block, hb]; exact hB
  simp only [World.cell?, hh] at hc
  split at hc
  · cases hc
  · have := Array.mem_of_getElem? hc
    simp at this
theorem Cf.offBox {w : World} {v : Value} {o n : List Int} (h : Cf w v o n) {B : Nat} {o1 o2 : Option Addr} {n1 n2 c1 c2 : Nat} {t : TypeId} {fr : Nat × Nat} (hB : w.heap[B]? = some (.cells #[.slice o1 n1 c1, .slice o2 n2 c2] t fr)) : Off (fun j => j = B) v o n := by
  obtain ⟨ao, no, co, an, nn, cn, e1, -, -, e4, -, -, e7⟩ := h
  intro ao' no' co' an' nn' cn' e
  rw [e1] at e
  cases e
  exact ⟨fun hx => ints_apart e4.1 hx hB, fun hx => ints_apart e7.1 hx hB⟩
theorem same_cf {Y : World} {v v' : Value} {o n : List Int} (h : Cf Y v o n) (h' : Cf Y v' o n) (ho : o.length ≤ 1000000) (hn : n.length ≤ 1000000) : Calls Try.prog 26 #[v, v'] Y fun e w' => e = .returned (.bool true) ∧ Below Y.heap.size Y w' := by
  obtain ⟨ao, no, co, an, nn, cn, rfl, e2, -, e4, e5, -, e7⟩ := h
  obtain ⟨bo, mo, po, bn, mn, pn, rfl, f2, -, f4, f5, -, f7⟩ := h'
  have hh := rsame_any ao an bo bn no nn co cn mo mn po pn o n o n e2 e5 f2 f5 (by omega) (by omega) Y e4.1 e7.1 f4.1 f7.1
  rw [show sameOf o n o n = true by unfold sameOf; simp] at hh
  exact hh
theorem box1D (w : World) (o : Obj) : (w.alloc o).drew.heap[w.heap.size]? = some o := box_at w o
theorem box2D (z : World) (a b : Obj) : ((z.alloc a).alloc b).drew.heap[z.heap.size]? = some a ∧ ((z.alloc a).alloc b).drew.heap[z.heap.size + 1]? = some b := ⟨(box2 z a b).1, (box2 z a b).2.1⟩
theorem ez1 (w : World) (o : Obj) : Below w.heap.size w (w.alloc o) := (Below.refl _ w).alloc (Nat.le_refl _) o
theorem ez2 (w : World) (a b : Obj) : Below w.heap.size w ((w.alloc a).alloc b) := (box2 w a b).2.2
theorem ez0D (w : World) : Below w.heap.size w w.drew := (Below.refl _ w).drew
theorem ez1D (w : World) (o : Obj) : Below w.heap.size w (w.alloc o).drew := (ez1 w o).drew
theorem ez2D (w : World) (a b : Obj) : Below w.heap.size w ((w.alloc a).alloc b).drew := (ez2 w a b).drew
theorem list_z (bits : Int) (ms : List Int) (z : Nat) (hms : lst (bitOf bits) 9 = ms) (hz : ms.length = z) (Y : World) : Calls Try.prog 35 #[.int .i64 bits] Y fun e w' => ∃ mo mc, e = .returned (.slice mo z mc) ∧ InF (fun j => Y.heap.size ≤ j ∧ j < w'.heap.size) w' mo ms ∧ Below Y.heap.size Y w' :=
  (list_any bits Y).mono fun e w' ⟨v, h1, h2, h3⟩ => by
    rw [hms] at h2
    obtain ⟨mo, mc, rfl, -, -, -⟩ := h2.slice
    rw [hz] at h1 h2
    exact ⟨mo, mc, h1, h2.inF.mono (fun j hj => h2.lt j hj), h3⟩
theorem good_z (kd : Int) (hk : kd % 5 = kd) (mo : Option Addr) (z mc : Nat) (hz : z ≤ 9) (Y : World) : Calls Try.prog 34 #[.agg #[.int .i64 kd, .int .i64 0, .int .i64 0, .string ⟨#[]⟩, .slice mo z mc, .int .i64 0]] Y fun e w' => e = .returned (.agg #[.int .i64 kd, .int .i64 0, .int .i64 0, .string ⟨#[]⟩, .slice mo z mc, .int .i64 0]) ∧ Below Y.heap.size Y w' := by
  have h := good_any kd 0 0 0 ⟨#[]⟩ mo z mc hz rfl Y
  rw [hk] at h
  exact h
theorem lst_arm {wr X z1 : World} {mo : Option Addr} {ms : List Int} (e : Below wr.heap.size wr X) (i : InF (fun j => X.heap.size ≤ j ∧ j < z1.heap.size) z1 mo ms) (b : Below X.heap.size X z1) :
    ∃ F : Nat → Prop, InF F z1 mo ms ∧ (∀ j, F j → wr.heap.size ≤ j ∧ j < z1.heap.size) ∧ (∀ (G : Nat) o, X.heap[G]? = some o → z1.heap[G]? = some o ∧ ¬ F G) ∧ Below wr.heap.size wr z1 :=
  ⟨_, i, fun j hj => ⟨Nat.le_trans e.size hj.1, hj.2⟩, fun G o h => ⟨Below.stay b h, fun x => by have := heap_lt h; omega⟩, below_far e b⟩
theorem good_arm {wr z1 X z2 : World} {F : Nat → Prop} {mo : Option Addr} {ms : List Int} (e : Below z1.heap.size z1 X) (b : Below X.heap.size X z2) (i : InF F z1 mo ms) (f : ∀ j, F j → wr.heap.size ≤ j ∧ j < z1.heap.size) (ez : Below wr.heap.size wr z1) :
    InF F z2 mo ms ∧ (∀ j, F j → wr.heap.size ≤ j ∧ j < z2.heap.size) ∧ (∀ (G : Nat) o, X.heap[G]? = some o → z2.heap[G]? = some o) ∧ (∀ (G : Nat) o, z1.heap[G]? = some o → z2.heap[G]? = some o) ∧ (∀ G, z1.heap.size ≤ G → ¬ F G) ∧ Below wr.heap.size wr z2 :=
  ⟨(i.below e).below b, fun j hj => ⟨(f j hj).1, Nat.lt_of_lt_of_le (f j hj).2 (below_far e b).size⟩, fun G o h => Below.stay b h, fun G o h => Below.stay (below_far e b) h, fun G h x => by have := (f G x).2; omega, below_far ez (below_far e b)⟩
theorem six_rules {z : World} {G : Nat} (h : z.heap[G]? = some boxZ) : (z.cell? ⟨G, 0, none⟩ = some (.int .i64 0) ∧ z.cell? ⟨G, 1, none⟩ = some (.int .i64 0) ∧ z.cell? ⟨G, 2, none⟩ = some (.int .i64 0) ∧ z.cell? ⟨G, 3, none⟩ = some (.string ⟨#[]⟩) ∧ z.cell? ⟨G, 4, none⟩ = some (.slice none 0 0) ∧ z.cell? ⟨G, 5, none⟩ = some (.int .i64 0)) ∧ ∀ i, z.frozen? ⟨G, i, none⟩ = false :=
  ⟨⟨(cell_of_block h).trans rfl, (cell_of_block h).trans rfl, (cell_of_block h).trans rfl, (cell_of_block h).trans rfl, (cell_of_block h).trans rfl, (cell_of_block h).trans rfl⟩, fun _ => free_of_block h⟩
theorem row_rules {z : World} {G : Nat} (h : z.heap[G]? = some rowK) : z.cell? ⟨G, 0, none⟩ = some (.int .i64 2) ∧ z.cell? ⟨G, 1, none⟩ = some (.int .i64 4) ∧ z.cell? ⟨G, 2, none⟩ = some (.int .i64 1) :=
  ⟨(cell_of_block h).trans rfl, (cell_of_block h).trans rfl, (cell_of_block h).trans rfl⟩
abbrev six' (z : World) (G : Nat) (v0 v1 v2 v3 v4 v5 : Value) : World := (((((z.setCell ⟨G, 0, none⟩ v0).setCell ⟨G, 1, none⟩ v1).setCell ⟨G, 2, none⟩ v2).setCell ⟨G, 3, none⟩ v3).setCell ⟨G, 4, none⟩ v4).setCell ⟨G, 5, none⟩ v5
theorem six_kp (z : World) (G : Nat) (v0 v1 v2 v3 v4 v5 : Value) : Kp (fun k => k = G) z (six' z G v0 v1 v2 v3 v4 v5) :=
  ((((((Kp.refl (fun k => k = G) z).setCell (p := ⟨G, 0, none⟩) rfl v0).setCell (p := ⟨G, 1, none⟩) rfl v1).setCell (p := ⟨G, 2, none⟩) rfl v2).setCell (p := ⟨G, 3, none⟩) rfl v3).setCell (p := ⟨G, 4, none⟩) rfl v4).setCell (p := ⟨G, 5, none⟩) rfl v5
theorem cell_six {z : World} {G : Nat} {v0 v1 v2 v3 v4 v5 : Value} {a : Addr} (h : a.block ≠ G) : (six' z G v0 v1 v2 v3 v4 v5).cell? a = z.cell? a :=
  World.cell?_of_block (by show (six' z G v0 v1 v2 v3 v4 v5).heap[a.block]? = _; rw [Below.heap_setCell _ _ _ _ h, Below.heap_setCell _ _ _ _ h, Below.heap_setCell _ _ _ _ h, Below.heap_setCell _ _ _ _ h, Below.heap_setCell _ _ _ _ h, Below.heap_setCell _ _ _ _ h])
theorem six_below {wr z : World} {G : Nat} (h : Below wr.heap.size wr z) (hG : wr.heap.size ≤ G) (v0 v1 v2 v3 v4 v5 : Value) : Below wr.heap.size wr (six' z G v0 v1 v2 v3 v4 v5) :=
  h.trans ((six_kp z G v0 v1 v2 v3 v4 v5).below (fun j hj => by rw [hj]; exact hG) h.size)
theorem mem_end {wr z : World} {G : Nat} {F : Nat → Prop} {mo : Option Addr} {ms : List Int} (h : z.heap[G]? = some boxZ) (hf : ¬ F G) (i : InF F z mo ms) (f : ∀ j, F j → wr.heap.size ≤ j ∧ j < z.heap.size) (hb : Below wr.heap.size wr z) (hG : wr.heap.size ≤ G) (kd : Int) (n mc : Nat) :
    (six' z G (.int .i64 kd) (.int .i64 0) (.int .i64 0) (.string ⟨#[]⟩) (.slice mo n mc) (.int .i64 0)).heap[G]? = some (boxM kd mo n mc) ∧ InF (fun j => wr.heap.size ≤ j ∧ j < (six' z G (.int .i64 kd) (.int .i64 0) (.int .i64 0) (.string ⟨#[]⟩) (.slice mo n mc) (.int .i64 0)).heap.size) (six' z G (.int .i64 kd) (.int .i64 0) (.int .i64 0) (.string ⟨#[]⟩) (.slice mo n mc) (.int .i64 0)) mo ms ∧ Below wr.heap.size wr (six' z G (.int .i64 kd) (.int .i64 0) (.int .i64 0) (.string ⟨#[]⟩) (.slice mo n mc) (.int .i64 0)) :=
  ⟨setCell_block (setCell_block (setCell_block (setCell_block (setCell_block (setCell_block h))))), (i.kp (six_kp z G _ _ _ _ _ _) (fun _ hj e => hf (e ▸ hj))).mono (fun j hj => ⟨(f j hj).1, Nat.lt_of_lt_of_le (f j hj).2 (six_kp z G _ _ _ _ _ _).size⟩), six_below hb hG _ _ _ _ _ _⟩
theorem new_end {wr z : World} {F : Nat → Prop} {mo : Option Addr} {ms : List Int} (i : InF F z mo ms) (f : ∀ j, F j → wr.heap.size ≤ j ∧ j < z.heap.size) (hb : Below wr.heap.size wr z) (kd : Int) (n mc : Nat) :
    (z.alloc (boxM kd mo n mc)).heap[z.heap.size]? = some (boxM kd mo n mc) ∧ InF (fun j => wr.heap.size ≤ j ∧ j < (z.alloc (boxM kd mo n mc)).heap.size) (z.alloc (boxM kd mo n mc)) mo ms ∧ Below wr.heap.size wr (z.alloc (boxM kd mo n mc)) :=
  ⟨box_at _ _, (i.below ((Below.refl _ z).alloc (Nat.le_refl _) _)).mono (fun j hj => ⟨(f j hj).1, by have := (f j hj).2; simp; omega⟩), hb.alloc hb.size _⟩

set_option linter.unusedVariables false in
set_option linter.unusedSimpArgs false in
set_option maxRecDepth 1000000 in
set_option maxHeartbeats 16000000 in
theorem members_walk (bits : Int) (ay : Option Addr) (m d : Nat) (ys : List Int) (hm : ys.length = m) (hmm : m ≤ maxLen) (w : World) (hy : IntsR w ay ys) :
    Calls Try.prog 7 #[.int .i64 bits, .slice ay m d] w fun e w' => e = .returned (.bool true) ∧ Below w.heap.size w w' := by
  have hmm' : m ≤ 9223372036854775807 := hmm
  have KN := hide (hknown_any w)
  have HY := hide hy
  have HM := hide hm
  clear hy hm hmm
  go_enter Try.func7, Try.ntmps7
  go_wp2_with fail
  refine (unhide KN).mono ?_
  rintro e w1 ⟨rfl, b1⟩
  have B1 := hide b1
  have NE := hide (hnew_any 0 w1)
  clear b1 KN
  go_wp2_with fail
  refine (unhide NE).mono ?_
  rintro e w2 ⟨rfl, h2, b2⟩
  have B2 := hide (below_far (unhide B1) b2)
  have H2 := hide h2
  have L2 := hide (h2.lt _ rfl)
  have PL := hide (plain_new bits w2)
  obtain ⟨p, hp⟩ : ∃ p, w1.heap.size = p := ⟨_, rfl⟩
  have sp : w.heap.size ≤ p := by rw [← hp]; exact (unhide B1).size
  rw [hp] at H2 L2
  clear b2 h2 NE B1
  go_wp2_with fail
  refine (unhide PL).mono ?_
  rintro e w3 ⟨an, n, c, rfl, hn, hnc, fr, b3, hbk⟩
  obtain ⟨W, hW, bW, xW, sW⟩ := boxed w3 (.slice none 0 0) (.slice an n c)
  obtain ⟨W', hW', bW', xW', sW'⟩ := boxed W (.slice none 0 0) (.slice an n c)
  have b3W := below_far b3 (below_far bW bW')
  have HW := hide hW
  have HW' := hide hW'
  have x6 := Below.stay bW' xW
  have SQ := hide sW
  have B3 := hide (below_far (unhide B2) b3W)
  have H3 := hide ((unhide H2).below b3W)
  obtain ⟨c0, c1⟩ := two_cells xW
  have CW : Hid (Cf W' (.agg #[.slice none 0 0, .slice an n c]) [] (plainOf (bitOf bits))) := ⟨none, 0, 0, an, n, c, rfl, rfl, Nat.le_refl _, Fr.nil _, hn, hnc, fr.below (below_far bW bW')⟩
  have OW : Hid (Off (fun k => k = p) (.agg #[.slice none 0 0, .slice an n c]) [] (plainOf (bitOf bits))) := Hi.off (base := w2.heap.size) (Hi.mk (fun _ h => by cases h) hbk) (fun j hj => by rw [hj]; exact unhide L2) _ _
  have X6 := hide x6
  have X7 := hide xW'
  have Q36 : Hid (w2.heap.size ≤ w3.heap.size) := b3.size
  have PLN := hide (plain_len (bitOf bits))
  have HN := hide hn
  clear hW hW' bW bW' xW xW' sW sW' b3W x6 hn fr b3 hbk PL B2 H2
  obtain ⟨q, hq⟩ : ∃ q, w3.heap.size = q := ⟨_, rfl⟩
  rw [hq] at X6 Q36 c0 c1 SQ
  go_upto_region 5 with fail
  rw [unhide HW]
  go_upto_region 6 with fail
  rw [unhide HW']
  clear HW HW' c0 c1 hp hq
  go_wp2_with fail
  obtain ⟨P0, hP0⟩ : ∃ P0, plainOf (bitOf bits) = P0 := ⟨_, rfl⟩
  rw [hP0] at CW OW PLN HN
  clear hP0
  have hn7 : n ≤ 7 := by rw [← unhide HN]; exact unhide PLN
  have SPQ : Hid (w.heap.size ≤ q) := by show w.heap.size ≤ q; have := unhide L2; have := unhide Q36; omega
  go_loopw [8, 9, 10, 11, 12, 13, 14, 15] (fun iv _ _ _ _ _ _ _ wr => ∃ (k : Nat) (D : Nat → Prop) (rs : List Rw) (s0 s1 : Value) (o' n' : List Int), k ≤ m ∧ k ≤ 30 ∧ iv = .int .i64 (k : Int) ∧ Hs D wr p 0 rs ∧ rs.length = k ∧ (∀ r ∈ rs, r.1 = 1) ∧ (∀ j, D j → w.heap.size ≤ j ∧ j ≠ q ∧ j ≠ W.heap.size) ∧ wr.heap[q]? = some (.cells #[s0, s1] 34 (0, 0)) ∧ Cf wr (.agg #[s0, s1]) o' n' ∧ Off D (.agg #[s0, s1]) o' n' ∧ cfOf ([], P0) (rs.map (·.2)) = (o', n') ∧ o'.length ≤ 7 ∧ n'.length ≤ 7 ∧ wr.heap[W.heap.size]? = some (.cells #[.slice none 0 0, .slice an n c] 34 (0, 0)) ∧ Cf wr (.agg #[.slice none 0 0, .slice an n c]) [] P0 ∧ Off D (.agg #[.slice none 0 0, .slice an n c]) [] P0 ∧ Below w.heap.size w wr) (fun iv _ _ _ _ _ _ _ _ => m - (intOf iv).toNat)
  case atStart => exact ⟨0, _, [], _, _, [], P0, Nat.zero_le _, Nat.zero_le _, rfl, unhide H3, rfl, fun r h => (by simp at h), fun j hj => by subst hj; exact ⟨sp, by have := unhide L2; have := unhide Q36; omega, by have := unhide L2; have := unhide Q36; have := unhide SQ; omega⟩, unhide X6, unhide CW, unhide OW, rfl, Nat.zero_le _, unhide PLN, unhide X7, unhide CW, unhide OW, unhide B3⟩
  case round =>
    clear X6 X7 CW OW H3 B3 L2
    obtain ⟨k, D, rs, s0, s1, o', n', hk, hk3, rfl, hs, hl, hone, hd, x6, cf6, of6, hcf, lo, ln, x7, cf7, of7, hbel⟩ := hrel
    have HS := hide hs
    have HL := hide hl
    have HONE := hide hone
    have HD := hide hd
    have X6 := hide x6
    have CF6 := hide cf6
    have OF6 := hide of6
    have HCF := hide hcf
    have LON := hide (And.intro lo ln)
    have X7 := hide x7
    have CF7 := hide cf7
    have OF7 := hide of7
    have BEL := hide hbel
    clear hs hl hone hd x6 cf6 of6 hcf lo ln x7 cf7 of7 hbel
    by_cases hlt : k < m
    · have g1 : (k : Int) < (m : Int) := by omega
      by_cases h30 : k < 30
      · have g2 : (k : Int) < 30 := by omega
        obtain ⟨a1, rfl, h1⟩ := ((unhide HY).below (unhide BEL)) k (by rw [unhide HM]; exact hlt)
        obtain ⟨x, hx⟩ : ∃ x, ys.getD k 0 = x := ⟨_, rfl⟩
        rw [hx] at h1
        have q0 := Int.emod_nonneg x (show (3 : Int) ≠ 0 by decide)
        have q1 := Int.emod_lt_of_pos x (show (0 : Int) < 3 by decide)
        have WI := hide (fun Y => within_any x 3 Y (by decide) (by decide))
        have A1W : Hid ((a1.add k).block < wr.heap.size) := blk_lt h1
        have SX := hide (fun Y (h : Below wr.heap.size wr Y) => (h.cell (blk_lt h1)).trans h1)
        obtain ⟨xt, hxt⟩ : ∃ xt, IntKind.i64.wrap (x.tdiv 3) = xt := ⟨_, rfl⟩
        obtain ⟨ms, hms⟩ : ∃ ms, lst (bitOf xt) 9 = ms := ⟨_, rfl⟩
        have ml : ms.length ≤ 7 := by rw [← hms]; exact lst_len _
        obtain ⟨z, hz⟩ : ∃ z, ms.length = z := ⟨_, rfl⟩
        have LI := hide (fun Y => list_z xt ms z hms hz Y)
        rw [hz] at ml
        have GO := hide (fun kd hk mo mc Y => good_z kd hk mo z mc (by omega) Y)
        obtain ⟨r, hr⟩ : ∃ r, x % 3 = r := ⟨_, rfl⟩
        rw [hr] at WI q0 q1
        obtain ⟨kd, hkd⟩ : ∃ kd : Int, (r = 0 ∧ kd = 2) ∨ (r = 1 ∧ kd = 4) ∨ (r = 2 ∧ kd = 1) := by
          rcases (show r = 0 ∨ r = 1 ∨ r = 2 by omega) with e | e | e
          · exact ⟨2, Or.inl ⟨e, rfl⟩⟩
          · exact ⟨4, Or.inr (Or.inl ⟨e, rfl⟩)⟩
          · exact ⟨1, Or.inr (Or.inr ⟨e, rfl⟩)⟩
        have HZ := hide hz
        have HKD := hide hkd
        clear hx h1 hms hr q0 q1 hkd hz
        go_upto_region 9 with fail
        go_cut [9] (fun v9 wc => ∃ G mo mc, v9 = .pointer (some ⟨G, 0, none⟩) ∧ wr.heap.size ≤ G ∧ wc.heap[G]? = some (boxM kd mo z mc) ∧ InF (fun j => wr.heap.size ≤ j ∧ j < wc.heap.size) wc mo ms ∧ Below wr.heap.size wr wc)
        case first =>
          have EZ := hide ((Below.refl wr.heap.size wr).drew)
          have s0' := unhide SX _ (unhide EZ)
          rcases unhide HKD with ⟨rfl, rfl⟩ | ⟨rfl, rfl⟩ | ⟨rfl, rfl⟩
          all_goals
            refine wp_region_noPanic ?_
            refine wp_region_held_drew (S := (fun Y => Y.cell? (a1.add k) = some (.int .i64 x))) (by kernel_rfl) (unhide SX _ (unhide EZ)) (fun hHeld => ?_)
            refine wpAnyH_take (i := 1) (v := .slice (some a1) m d) rfl (by kernel_rfl) (by kernel_rfl) (by kernel_rfl) (fun _ _ _ h => h) (Or.inl ⟨by rfl, ?_⟩) (by assumption) ?_
            · intro Y hY
              (try dsimp only at hY)
              go_simp
              all_goals with_reducible rfl
            dsimp only [Act.put]
            try simp only [List.setIfInBounds_toArray, List.set_cons_zero, List.set_cons_succ]
            refine wpAnyH_take (i := 2) (v := .int .i64 (k : Int)) rfl (by kernel_rfl) (by kernel_rfl) (by kernel_rfl) (fun _ _ _ h => h) (Or.inl ⟨by rfl, ?_⟩) (by assumption) ?_
            · intro Y hY
              (try dsimp only at hY)
              go_simp
              all_goals with_reducible rfl
            dsimp only [Act.put]
            try simp only [List.setIfInBounds_toArray, List.set_cons_zero, List.set_cons_succ]
            refine wpAnyH_take (i := 3) (v := .pointer (some (a1.add k))) rfl (by kernel_rfl) (by kernel_rfl) (by kernel_rfl) (fun _ _ _ h => h) (Or.inl ⟨by rfl, ?_⟩) (by assumption) ?_
            · intro Y hY
              (try dsimp only at hY)
              go_simp
              all_goals with_reducible rfl
            dsimp only [Act.put]
            try simp only [List.setIfInBounds_toArray, List.set_cons_zero, List.set_cons_succ]
            refine wpAnyH_take (i := 4) (v := .int .i64 x) rfl (by kernel_rfl) (by kernel_rfl) (by kernel_rfl) (fun _ _ _ h => h) (Or.inl ⟨by rfl, ?_⟩) (by assumption) ?_
            · intro Y hY
              (try dsimp only at hY)
              go_simp
              all_goals with_reducible rfl
            dsimp only [Act.put]
            try simp only [List.setIfInBounds_toArray, List.set_cons_zero, List.set_cons_succ]
            refine wpAnyH_take (i := 8) (v := .slice (some a1) m d) rfl (by kernel_rfl) (by kernel_rfl) (by kernel_rfl) (fun _ _ _ h => h) (Or.inl ⟨by rfl, ?_⟩) (by assumption) ?_
            · intro Y hY
              (try dsimp only at hY)
              go_simp
              all_goals with_reducible rfl
            dsimp only [Act.put]
            try simp only [List.setIfInBounds_toArray, List.set_cons_zero, List.set_cons_succ]
            refine wpAnyH_take (i := 9) (v := .int .i64 (k : Int)) rfl (by kernel_rfl) (by kernel_rfl) (by kernel_rfl) (fun _ _ _ h => h) (Or.inl ⟨by rfl, ?_⟩) (by assumption) ?_
            · intro Y hY
              (try dsimp only at hY)
              go_simp
              all_goals with_reducible rfl
            dsimp only [Act.put]
            try simp only [List.setIfInBounds_toArray, List.set_cons_zero, List.set_cons_succ]
            refine wpAnyH_take (i := 10) (v := .pointer (some (a1.add k))) rfl (by kernel_rfl) (by kernel_rfl) (by kernel_rfl) (fun _ _ _ h => h) (Or.inl ⟨by rfl, ?_⟩) (by assumption) ?_
            · intro Y hY
              (try dsimp only at hY)
              go_simp
              all_goals with_reducible rfl
            dsimp only [Act.put]
            try simp only [List.setIfInBounds_toArray, List.set_cons_zero, List.set_cons_succ]
            refine wpAnyH_take (i := 11) (v := .int .i64 x) rfl (by kernel_rfl) (by kernel_rfl) (by kernel_rfl) (fun _ _ _ h => h) (Or.inl ⟨by rfl, ?_⟩) (by assumption) ?_
            · intro Y hY
              (try dsimp only at hY)
              go_simp
              all_goals with_reducible rfl
            dsimp only [Act.put]
            try simp only [List.setIfInBounds_toArray, List.set_cons_zero, List.set_cons_succ]
            refine wpAnyH_take (i := 12) (v := .int .i64 xt) rfl (by kernel_rfl) (by kernel_rfl) (by kernel_rfl) (fun _ _ _ h => h) (Or.inl ⟨by rfl, ?_⟩) (by assumption) ?_
            · intro Y hY
              (try dsimp only at hY)
              go_simp
              all_goals with_reducible rfl
            dsimp only [Act.put]
            try simp only [List.setIfInBounds_toArray, List.set_cons_zero, List.set_cons_succ]
            refine wpAnyH_ready (rs := [0, 5, 16]) (by kernel_rfl) (by simp) ?_
            refine AllReadyH.cons rfl (fun K hK => ?_) ?_
            · go_simp
              refine hK.out _ _ ?_ (fun hHeld => ?_)
              · first
                  | with_reducible exact unhide SX _ (unhide EZ)
                  | with_reducible refine (cell_six ?_).trans (unhide SX _ (unhide EZ)); (have := unhide A1W; omega)
                  | with_reducible exact unhide SX _ (below_far (unhide EZ) (ez1 _ _))
                  | with_reducible exact unhide SX _ (below_far (unhide EZ) (ez2 _ _ _))
                  | with_reducible exact unhide SX _ (below_far (unhide EZ) (ez1D _ _))
                  | with_reducible exact unhide SX _ (below_far (unhide EZ) (ez2D _ _ _))
                  | with_reducible exact unhide SX _ (ez1 _ _)
                  | with_reducible exact unhide SX _ (ez2 _ _ _)
                  | with_reducible exact unhide SX _ (ez1D _ _)
                  | with_reducible exact unhide SX _ (ez2D _ _ _)
                  | fail
              clear hK K
              try simp only [Act.put, List.setIfInBounds_toArray, List.set_cons_zero, List.set_cons_succ]
              refine wpAnyH_ready (rs := [5, 16]) (by kernel_rfl) (by simp) ?_
              refine AllReadyH.cons rfl (fun K hK => ?_) ?_
              · go_simp
                refine (unhide WI _).mono ?_
                rintro e zz ⟨rfl, hw⟩
                replace hw := hw.symm
                subst hw
                go_wp2_with fail
                refine hK.out _ _ ?_ (fun hHeld => ?_)
                · first
                    | with_reducible exact unhide SX _ (unhide EZ)
                    | with_reducible refine (cell_six ?_).trans (unhide SX _ (unhide EZ)); (have := unhide A1W; omega)
                    | with_reducible exact unhide SX _ (below_far (unhide EZ) (ez1 _ _))
                    | with_reducible exact unhide SX _ (below_far (unhide EZ) (ez2 _ _ _))
                    | with_reducible exact unhide SX _ (below_far (unhide EZ) (ez1D _ _))
                    | with_reducible exact unhide SX _ (below_far (unhide EZ) (ez2D _ _ _))
                    | with_reducible exact unhide SX _ (ez1 _ _)
                    | with_reducible exact unhide SX _ (ez2 _ _ _)
                    | with_reducible exact unhide SX _ (ez1D _ _)
                    | with_reducible exact unhide SX _ (ez2D _ _ _)
                    | fail
                clear hK K
                try simp only [Act.put, List.setIfInBounds_toArray, List.set_cons_zero, List.set_cons_succ]
                refine wpAnyH_take (i := 6) (v := ?_) rfl (by kernel_rfl) (by kernel_rfl) (by kernel_rfl) (fun _ _ _ h => h) (Or.inl ⟨by rfl, ?_⟩) (by assumption) ?_
                rotate_left 1
                · intro Y hY
                  go_simp
                  all_goals with_reducible rfl
                dsimp only [Act.put]
                try simp only [List.setIfInBounds_toArray, List.set_cons_zero, List.set_cons_succ]
                refine wpAnyH_ready (rs := [7, 13, 16]) (by kernel_rfl) (by simp) ?_
                refine AllReadyH.cons rfl (fun K hK => ?_) ?_
                · go_simp
                  refine hK.out _ _ ?_ (fun hHeld => ?_)
                  · first
                      | with_reducible exact unhide SX _ (unhide EZ)
                      | with_reducible refine (cell_six ?_).trans (unhide SX _ (unhide EZ)); (have := unhide A1W; omega)
                      | with_reducible exact unhide SX _ (below_far (unhide EZ) (ez1 _ _))
                      | with_reducible exact unhide SX _ (below_far (unhide EZ) (ez2 _ _ _))
                      | with_reducible exact unhide SX _ (below_far (unhide EZ) (ez1D _ _))
                      | with_reducible exact unhide SX _ (below_far (unhide EZ) (ez2D _ _ _))
                      | with_reducible exact unhide SX _ (ez1 _ _)
                      | with_reducible exact unhide SX _ (ez2 _ _ _)
                      | with_reducible exact unhide SX _ (ez1D _ _)
                      | with_reducible exact unhide SX _ (ez2D _ _ _)
                      | fail
                  clear hK K
                  try simp only [Act.put, List.setIfInBounds_toArray, List.set_cons_zero, List.set_cons_succ]
                  refine wpAnyH_ready (rs := [13, 16]) (by kernel_rfl) (by simp) ?_
                  refine AllReadyH.cons rfl (fun K hK => ?_) ?_
                  · go_simp
                    refine (unhide LI _).mono ?_
                    rintro e z1 ⟨mo, mc, rfl, i1, b1⟩
                    obtain ⟨F, i1, f1, k1, b1⟩ := lst_arm (wr := wr) (by first | with_reducible exact ez0D wr | with_reducible exact ez1D wr _ | with_reducible exact ez2D wr _ _ | fail) i1 b1
                    have I1 := hide i1
                    have F1 := hide f1
                    have sz1 := b1.size
                    skip
                    clear EZ i1 f1 k1
                    have EZ := hide b1
                    clear b1
                    go_wp2_with fail
                    refine hK.out _ _ ?_ (fun hHeld => ?_)
                    · first
                        | with_reducible exact unhide SX _ (unhide EZ)
                        | with_reducible refine (cell_six ?_).trans (unhide SX _ (unhide EZ)); (have := unhide A1W; omega)
                        | with_reducible exact unhide SX _ (below_far (unhide EZ) (ez1 _ _))
                        | with_reducible exact unhide SX _ (below_far (unhide EZ) (ez2 _ _ _))
                        | with_reducible exact unhide SX _ (below_far (unhide EZ) (ez1D _ _))
                        | with_reducible exact unhide SX _ (below_far (unhide EZ) (ez2D _ _ _))
                        | with_reducible exact unhide SX _ (ez1 _ _)
                        | with_reducible exact unhide SX _ (ez2 _ _ _)
                        | with_reducible exact unhide SX _ (ez1D _ _)
                        | with_reducible exact unhide SX _ (ez2D _ _ _)
                        | fail
                    clear hK K
                    try simp only [Act.put, List.setIfInBounds_toArray, List.set_cons_zero, List.set_cons_succ]
                    refine wpAnyH_take (i := 14) (v := ?_) rfl (by kernel_rfl) (by kernel_rfl) (by kernel_rfl) (fun _ _ _ h => h) (Or.inl ⟨by rfl, ?_⟩) (by assumption) ?_
                    rotate_left 1
                    · intro Y hY
                      go_simp
                      all_goals with_reducible rfl
                    dsimp only [Act.put]
                    try simp only [List.setIfInBounds_toArray, List.set_cons_zero, List.set_cons_succ]
                    refine wpAnyH_ready (rs := [15, 16]) (by kernel_rfl) (by simp) ?_
                    refine AllReadyH.cons rfl (fun K hK => ?_) ?_
                    · go_simp
                      refine (unhide GO _ (by decide) _ _ _).mono ?_
                      rintro e z2 ⟨rfl, b2⟩
                      obtain ⟨i2, f2, k2, k2', n2, e2⟩ := good_arm (wr := wr) (z1 := z1) (by first | with_reducible exact Below.refl _ z1 | with_reducible exact ez1 z1 _ | with_reducible exact ez2 z1 _ _ | fail) b2 (unhide I1) (unhide F1) (unhide EZ)
                      have I2 := hide i2
                      have F2 := hide f2
                      have sz2 := e2.size
                      skip
                      clear EZ i2 f2 k2 k2' n2 b2
                      have EZ := hide e2
                      clear e2
                      go_wp2_with fail
                      refine hK.out _ _ ?_ (fun hHeld => ?_)
                      · first
                          | with_reducible exact unhide SX _ (unhide EZ)
                          | with_reducible refine (cell_six ?_).trans (unhide SX _ (unhide EZ)); (have := unhide A1W; omega)
                          | with_reducible exact unhide SX _ (below_far (unhide EZ) (ez1 _ _))
                          | with_reducible exact unhide SX _ (below_far (unhide EZ) (ez2 _ _ _))
                          | with_reducible exact unhide SX _ (below_far (unhide EZ) (ez1D _ _))
                          | with_reducible exact unhide SX _ (below_far (unhide EZ) (ez2D _ _ _))
                          | with_reducible exact unhide SX _ (ez1 _ _)
                          | with_reducible exact unhide SX _ (ez2 _ _ _)
                          | with_reducible exact unhide SX _ (ez1D _ _)
                          | with_reducible exact unhide SX _ (ez2D _ _ _)
                          | fail
                      clear hK K
                      try simp only [Act.put, List.setIfInBounds_toArray, List.set_cons_zero, List.set_cons_succ]
                      refine wpAnyH_ready (rs := [16]) (by kernel_rfl) (by simp) ?_
                      refine AllReadyH.cons rfl (fun K hK => ?_) ?_
                      · go_simp
                        refine hK.out _ _ ?_ (fun hHeld => ?_)
                        · first
                            | with_reducible exact unhide SX _ (unhide EZ)
                            | with_reducible refine (cell_six ?_).trans (unhide SX _ (unhide EZ)); (have := unhide A1W; omega)
                            | with_reducible exact unhide SX _ (below_far (unhide EZ) (ez1 _ _))
                            | with_reducible exact unhide SX _ (below_far (unhide EZ) (ez2 _ _ _))
                            | with_reducible exact unhide SX _ (below_far (unhide EZ) (ez1D _ _))
                            | with_reducible exact unhide SX _ (below_far (unhide EZ) (ez2D _ _ _))
                            | with_reducible exact unhide SX _ (ez1 _ _)
                            | with_reducible exact unhide SX _ (ez2 _ _ _)
                            | with_reducible exact unhide SX _ (ez1D _ _)
                            | with_reducible exact unhide SX _ (ez2D _ _ _)
                            | fail
                        clear hK K
                        try simp only [Act.put, List.setIfInBounds_toArray, List.set_cons_zero, List.set_cons_succ]
                        refine wpAnyH_ready (rs := [17]) (by kernel_rfl) (by simp) ?_
                        refine AllReadyH.cons rfl (fun K hK => ?_) ?_
                        · go_simp
                          refine hK.out _ _ ?_ (fun hHeld => ?_)
                          · first
                              | with_reducible exact unhide SX _ (unhide EZ)
                              | with_reducible refine (cell_six ?_).trans (unhide SX _ (unhide EZ)); (have := unhide A1W; omega)
                              | with_reducible exact unhide SX _ (below_far (unhide EZ) (ez1 _ _))
                              | with_reducible exact unhide SX _ (below_far (unhide EZ) (ez2 _ _ _))
                              | with_reducible exact unhide SX _ (below_far (unhide EZ) (ez1D _ _))
                              | with_reducible exact unhide SX _ (below_far (unhide EZ) (ez2D _ _ _))
                              | with_reducible exact unhide SX _ (ez1 _ _)
                              | with_reducible exact unhide SX _ (ez2 _ _ _)
                              | with_reducible exact unhide SX _ (ez1D _ _)
                              | with_reducible exact unhide SX _ (ez2D _ _ _)
                              | fail
                          clear hK K
                          try simp only [Act.put, List.setIfInBounds_toArray, List.set_cons_zero, List.set_cons_succ]
                          refine wpAnyH_done (by kernel_rfl) ?_ _
                          refine NoPanic.normal ?_
                          go_wp2_with fail
                          go_meet
                          exact ⟨_, mo, mc, rfl, sz2, new_end (unhide I2) (unhide F2) (unhide EZ) _ _ _⟩
                        exact AllReadyH.nil
                      exact AllReadyH.nil
                    refine AllReadyH.cons rfl (fun K hK => ?_) ?_
                    · go_simp
                      refine hK.out _ _ ?_ (fun hHeld => ?_)
                      · first
                          | with_reducible exact unhide SX _ (unhide EZ)
                          | with_reducible refine (cell_six ?_).trans (unhide SX _ (unhide EZ)); (have := unhide A1W; omega)
                          | with_reducible exact unhide SX _ (below_far (unhide EZ) (ez1 _ _))
                          | with_reducible exact unhide SX _ (below_far (unhide EZ) (ez2 _ _ _))
                          | with_reducible exact unhide SX _ (below_far (unhide EZ) (ez1D _ _))
                          | with_reducible exact unhide SX _ (below_far (unhide EZ) (ez2D _ _ _))
                          | with_reducible exact unhide SX _ (ez1 _ _)
                          | with_reducible exact unhide SX _ (ez2 _ _ _)
                          | with_reducible exact unhide SX _ (ez1D _ _)
                          | with_reducible exact unhide SX _ (ez2D _ _ _)
                          | fail
                      clear hK K
                      try simp only [Act.put, List.setIfInBounds_toArray, List.set_cons_zero, List.set_cons_succ]
                      refine wpAnyH_ready (rs := [15]) (by kernel_rfl) (by simp) ?_
                      refine AllReadyH.cons rfl (fun K hK => ?_) ?_
                      · go_simp
                        refine (unhide GO _ (by decide) _ _ _).mono ?_
                        rintro e z2 ⟨rfl, b2⟩
                        obtain ⟨i2, f2, k2, k2', n2, e2⟩ := good_arm (wr := wr) (z1 := z1) (by first | with_reducible exact Below.refl _ z1 | with_reducible exact ez1 z1 _ | with_reducible exact ez2 z1 _ _ | fail) b2 (unhide I1) (unhide F1) (unhide EZ)
                        have I2 := hide i2
                        have F2 := hide f2
                        have sz2 := e2.size
                        have KC := hide (And.intro (k2 _ _ (box_at z1 boxZ)) (n2 _ (Nat.le_refl _)))
                        obtain ⟨⟨d0, d1, d2, d3, d4, d5⟩, fz⟩ := six_rules (unhide KC).1
                        clear EZ i2 f2 k2 k2' n2 b2
                        have EZ := hide e2
                        clear e2
                        go_wp2_with fail
                        refine hK.out _ _ ?_ (fun hHeld => ?_)
                        · first
                            | with_reducible exact unhide SX _ (unhide EZ)
                            | with_reducible refine (cell_six ?_).trans (unhide SX _ (unhide EZ)); (have := unhide A1W; omega)
                            | with_reducible exact unhide SX _ (below_far (unhide EZ) (ez1 _ _))
                            | with_reducible exact unhide SX _ (below_far (unhide EZ) (ez2 _ _ _))
                            | with_reducible exact unhide SX _ (below_far (unhide EZ) (ez1D _ _))
                            | with_reducible exact unhide SX _ (below_far (unhide EZ) (ez2D _ _ _))
                            | with_reducible exact unhide SX _ (ez1 _ _)
                            | with_reducible exact unhide SX _ (ez2 _ _ _)
                            | with_reducible exact unhide SX _ (ez1D _ _)
                            | with_reducible exact unhide SX _ (ez2D _ _ _)
                            | fail
                        clear hK K
                        try simp only [Act.put, List.setIfInBounds_toArray, List.set_cons_zero, List.set_cons_succ]
                        refine wpAnyH_ready (rs := [17]) (by kernel_rfl) (by simp) ?_
                        refine AllReadyH.cons rfl (fun K hK => ?_) ?_
                        · go_simp
                          refine hK.out _ _ ?_ (fun hHeld => ?_)
                          · first
                              | with_reducible exact unhide SX _ (unhide EZ)
                              | with_reducible refine (cell_six ?_).trans (unhide SX _ (unhide EZ)); (have := unhide A1W; omega)
                              | with_reducible exact unhide SX _ (below_far (unhide EZ) (ez1 _ _))
                              | with_reducible exact unhide SX _ (below_far (unhide EZ) (ez2 _ _ _))
                              | with_reducible exact unhide SX _ (below_far (unhide EZ) (ez1D _ _))
                              | with_reducible exact unhide SX _ (below_far (unhide EZ) (ez2D _ _ _))
                              | with_reducible exact unhide SX _ (ez1 _ _)
                              | with_reducible exact unhide SX _ (ez2 _ _ _)
                              | with_reducible exact unhide SX _ (ez1D _ _)
                              | with_reducible exact unhide SX _ (ez2D _ _ _)
                              | fail
                          clear hK K
                          try simp only [Act.put, List.setIfInBounds_toArray, List.set_cons_zero, List.set_cons_succ]
                          refine wpAnyH_done (by kernel_rfl) ?_ _
                          refine NoPanic.normal ?_
                          go_wp2_with fail
                          go_meet
                          exact ⟨_, mo, mc, rfl, by first | exact Nat.le_refl _ | omega | fail, mem_end (unhide KC).1 (unhide KC).2 (unhide I2) (unhide F2) (unhide EZ) (by first | exact Nat.le_refl _ | omega | fail) _ _ _⟩
                        exact AllReadyH.nil
                      exact AllReadyH.nil
                    exact AllReadyH.nil
                  refine AllReadyH.cons rfl (fun K hK => ?_) ?_
                  · go_simp
                    refine hK.out _ _ ?_ (fun hHeld => ?_)
                    · first
                        | with_reducible exact unhide SX _ (unhide EZ)
                        | with_reducible refine (cell_six ?_).trans (unhide SX _ (unhide EZ)); (have := unhide A1W; omega)
                        | with_reducible exact unhide SX _ (below_far (unhide EZ) (ez1 _ _))
                        | with_reducible exact unhide SX _ (below_far (unhide EZ) (ez2 _ _ _))
                        | with_reducible exact unhide SX _ (below_far (unhide EZ) (ez1D _ _))
                        | with_reducible exact unhide SX _ (below_far (unhide EZ) (ez2D _ _ _))
                        | with_reducible exact unhide SX _ (ez1 _ _)
                        | with_reducible exact unhide SX _ (ez2 _ _ _)
                        | with_reducible exact unhide SX _ (ez1D _ _)
                        | with_reducible exact unhide SX _ (ez2D _ _ _)
                        | fail
                    clear hK K
                    try simp only [Act.put, List.setIfInBounds_toArray, List.set_cons_zero, List.set_cons_succ]
                    refine wpAnyH_ready (rs := [13]) (by kernel_rfl) (by simp) ?_
                    refine AllReadyH.cons rfl (fun K hK => ?_) ?_
                    · go_simp
                      refine (unhide LI _).mono ?_
                      rintro e z1 ⟨mo, mc, rfl, i1, b1⟩
                      obtain ⟨F, i1, f1, k1, b1⟩ := lst_arm (wr := wr) (by first | with_reducible exact ez0D wr | with_reducible exact ez1D wr _ | with_reducible exact ez2D wr _ _ | fail) i1 b1
                      have I1 := hide i1
                      have F1 := hide f1
                      have sz1 := b1.size
                      have KB := hide (k1 _ _ (box2D wr rowK boxZ).2)
                      clear EZ i1 f1 k1
                      have EZ := hide b1
                      clear b1
                      go_wp2_with fail
                      refine hK.out _ _ ?_ (fun hHeld => ?_)
                      · first
                          | with_reducible exact unhide SX _ (unhide EZ)
                          | with_reducible refine (cell_six ?_).trans (unhide SX _ (unhide EZ)); (have := unhide A1W; omega)
                          | with_reducible exact unhide SX _ (below_far (unhide EZ) (ez1 _ _))
                          | with_reducible exact unhide SX _ (below_far (unhide EZ) (ez2 _ _ _))
                          | with_reducible exact unhide SX _ (below_far (unhide EZ) (ez1D _ _))
                          | with_reducible exact unhide SX _ (below_far (unhide EZ) (ez2D _ _ _))
                          | with_reducible exact unhide SX _ (ez1 _ _)
                          | with_reducible exact unhide SX _ (ez2 _ _ _)
                          | with_reducible exact unhide SX _ (ez1D _ _)
                          | with_reducible exact unhide SX _ (ez2D _ _ _)
                          | fail
                      clear hK K
                      try simp only [Act.put, List.setIfInBounds_toArray, List.set_cons_zero, List.set_cons_succ]
                      refine wpAnyH_take (i := 14) (v := ?_) rfl (by kernel_rfl) (by kernel_rfl) (by kernel_rfl) (fun _ _ _ h => h) (Or.inl ⟨by rfl, ?_⟩) (by assumption) ?_
                      rotate_left 1
                      · intro Y hY
                        go_simp
                        all_goals with_reducible rfl
                      dsimp only [Act.put]
                      try simp only [List.setIfInBounds_toArray, List.set_cons_zero, List.set_cons_succ]
                      refine wpAnyH_ready (rs := [15]) (by kernel_rfl) (by simp) ?_
                      refine AllReadyH.cons rfl (fun K hK => ?_) ?_
                      · go_simp
                        refine (unhide GO _ (by decide) _ _ _).mono ?_
                        rintro e z2 ⟨rfl, b2⟩
                        obtain ⟨i2, f2, k2, k2', n2, e2⟩ := good_arm (wr := wr) (z1 := z1) (by first | with_reducible exact Below.refl _ z1 | with_reducible exact ez1 z1 _ | with_reducible exact ez2 z1 _ _ | fail) b2 (unhide I1) (unhide F1) (unhide EZ)
                        have I2 := hide i2
                        have F2 := hide f2
                        have sz2 := e2.size
                        have KC := hide (And.intro (k2' _ _ (unhide KB).1) (unhide KB).2)
                        obtain ⟨⟨d0, d1, d2, d3, d4, d5⟩, fz⟩ := six_rules (unhide KC).1
                        clear EZ i2 f2 k2 k2' n2 b2
                        have EZ := hide e2
                        clear e2
                        go_wp2_with fail
                        refine hK.out _ _ ?_ (fun hHeld => ?_)
                        · first
                            | with_reducible exact unhide SX _ (unhide EZ)
                            | with_reducible refine (cell_six ?_).trans (unhide SX _ (unhide EZ)); (have := unhide A1W; omega)
                            | with_reducible exact unhide SX _ (below_far (unhide EZ) (ez1 _ _))
                            | with_reducible exact unhide SX _ (below_far (unhide EZ) (ez2 _ _ _))
                            | with_reducible exact unhide SX _ (below_far (unhide EZ) (ez1D _ _))
                            | with_reducible exact unhide SX _ (below_far (unhide EZ) (ez2D _ _ _))
                            | with_reducible exact unhide SX _ (ez1 _ _)
                            | with_reducible exact unhide SX _ (ez2 _ _ _)
                            | with_reducible exact unhide SX _ (ez1D _ _)
                            | with_reducible exact unhide SX _ (ez2D _ _ _)
                            | fail
                        clear hK K
                        try simp only [Act.put, List.setIfInBounds_toArray, List.set_cons_zero, List.set_cons_succ]
                        refine wpAnyH_ready (rs := [17]) (by kernel_rfl) (by simp) ?_
                        refine AllReadyH.cons rfl (fun K hK => ?_) ?_
                        · go_simp
                          refine hK.out _ _ ?_ (fun hHeld => ?_)
                          · first
                              | with_reducible exact unhide SX _ (unhide EZ)
                              | with_reducible refine (cell_six ?_).trans (unhide SX _ (unhide EZ)); (have := unhide A1W; omega)
                              | with_reducible exact unhide SX _ (below_far (unhide EZ) (ez1 _ _))
                              | with_reducible exact unhide SX _ (below_far (unhide EZ) (ez2 _ _ _))
                              | with_reducible exact unhide SX _ (below_far (unhide EZ) (ez1D _ _))
                              | with_reducible exact unhide SX _ (below_far (unhide EZ) (ez2D _ _ _))
                              | with_reducible exact unhide SX _ (ez1 _ _)
                              | with_reducible exact unhide SX _ (ez2 _ _ _)
                              | with_reducible exact unhide SX _ (ez1D _ _)
                              | with_reducible exact unhide SX _ (ez2D _ _ _)
                              | fail
                          clear hK K
                          try simp only [Act.put, List.setIfInBounds_toArray, List.set_cons_zero, List.set_cons_succ]
                          refine wpAnyH_done (by kernel_rfl) ?_ _
                          refine NoPanic.normal ?_
                          go_wp2_with fail
                          go_meet
                          exact ⟨_, mo, mc, rfl, by first | exact Nat.le_refl _ | omega | fail, mem_end (unhide KC).1 (unhide KC).2 (unhide I2) (unhide F2) (unhide EZ) (by first | exact Nat.le_refl _ | omega | fail) _ _ _⟩
                        exact AllReadyH.nil
                      exact AllReadyH.nil
                    exact AllReadyH.nil
                  exact AllReadyH.nil
                refine AllReadyH.cons rfl (fun K hK => ?_) ?_
                · go_simp
                  refine (unhide LI _).mono ?_
                  rintro e z1 ⟨mo, mc, rfl, i1, b1⟩
                  obtain ⟨F, i1, f1, k1, b1⟩ := lst_arm (wr := wr) (by first | with_reducible exact ez0D wr | with_reducible exact ez1D wr _ | with_reducible exact ez2D wr _ _ | fail) i1 b1
                  have I1 := hide i1
                  have F1 := hide f1
                  have sz1 := b1.size
                  have RR := (k1 _ _ (box1D wr rowK)).1
                  obtain ⟨r0, r1, r2⟩ := row_rules RR
                  have ra := fun o => (row_rules (Below.stay (ez1 z1 o) RR)).1
                  have rb := fun o => (row_rules (Below.stay (ez1 z1 o) RR)).2.1
                  have rc := fun o => (row_rules (Below.stay (ez1 z1 o) RR)).2.2
                  clear RR
                  clear EZ i1 f1 k1
                  have EZ := hide b1
                  clear b1
                  go_wp2_with fail
                  refine hK.out _ _ ?_ (fun hHeld => ?_)
                  · first
                      | with_reducible exact unhide SX _ (unhide EZ)
                      | with_reducible refine (cell_six ?_).trans (unhide SX _ (unhide EZ)); (have := unhide A1W; omega)
                      | with_reducible exact unhide SX _ (below_far (unhide EZ) (ez1 _ _))
                      | with_reducible exact unhide SX _ (below_far (unhide EZ) (ez2 _ _ _))
                      | with_reducible exact unhide SX _ (below_far (unhide EZ) (ez1D _ _))
                      | with_reducible exact unhide SX _ (below_far (unhide EZ) (ez2D _ _ _))
                      | with_reducible exact unhide SX _ (ez1 _ _)
                      | with_reducible exact unhide SX _ (ez2 _ _ _)
                      | with_reducible exact unhide SX _ (ez1D _ _)
                      | with_reducible exact unhide SX _ (ez2D _ _ _)
                      | fail
                  clear hK K
                  try simp only [Act.put, List.setIfInBounds_toArray, List.set_cons_zero, List.set_cons_succ]
                  refine wpAnyH_ready (rs := [7, 16]) (by kernel_rfl) (by simp) ?_
                  refine AllReadyH.cons rfl (fun K hK => ?_) ?_
                  · go_simp
                    refine hK.out _ _ ?_ (fun hHeld => ?_)
                    · first
                        | with_reducible exact unhide SX _ (unhide EZ)
                        | with_reducible refine (cell_six ?_).trans (unhide SX _ (unhide EZ)); (have := unhide A1W; omega)
                        | with_reducible exact unhide SX _ (below_far (unhide EZ) (ez1 _ _))
                        | with_reducible exact unhide SX _ (below_far (unhide EZ) (ez2 _ _ _))
                        | with_reducible exact unhide SX _ (below_far (unhide EZ) (ez1D _ _))
                        | with_reducible exact unhide SX _ (below_far (unhide EZ) (ez2D _ _ _))
                        | with_reducible exact unhide SX _ (ez1 _ _)
                        | with_reducible exact unhide SX _ (ez2 _ _ _)
                        | with_reducible exact unhide SX _ (ez1D _ _)
                        | with_reducible exact unhide SX _ (ez2D _ _ _)
                        | fail
                    clear hK K
                    try simp only [Act.put, List.setIfInBounds_toArray, List.set_cons_zero, List.set_cons_succ]
                    refine wpAnyH_take (i := 14) (v := ?_) rfl (by kernel_rfl) (by kernel_rfl) (by kernel_rfl) (fun _ _ _ h => h) (Or.inl ⟨by rfl, ?_⟩) (by assumption) ?_
                    rotate_left 1
                    · intro Y hY
                      go_simp
                      all_goals with_reducible rfl
                    dsimp only [Act.put]
                    try simp only [List.setIfInBounds_toArray, List.set_cons_zero, List.set_cons_succ]
                    refine wpAnyH_ready (rs := [15, 16]) (by kernel_rfl) (by simp) ?_
                    refine AllReadyH.cons rfl (fun K hK => ?_) ?_
                    · go_simp
                      refine (unhide GO _ (by decide) _ _ _).mono ?_
                      rintro e z2 ⟨rfl, b2⟩
                      obtain ⟨i2, f2, k2, k2', n2, e2⟩ := good_arm (wr := wr) (z1 := z1) (by first | with_reducible exact Below.refl _ z1 | with_reducible exact ez1 z1 _ | with_reducible exact ez2 z1 _ _ | fail) b2 (unhide I1) (unhide F1) (unhide EZ)
                      have I2 := hide i2
                      have F2 := hide f2
                      have sz2 := e2.size
                      skip
                      clear EZ i2 f2 k2 k2' n2 b2
                      have EZ := hide e2
                      clear e2
                      go_wp2_with fail
                      refine hK.out _ _ ?_ (fun hHeld => ?_)
                      · first
                          | with_reducible exact unhide SX _ (unhide EZ)
                          | with_reducible refine (cell_six ?_).trans (unhide SX _ (unhide EZ)); (have := unhide A1W; omega)
                          | with_reducible exact unhide SX _ (below_far (unhide EZ) (ez1 _ _))
                          | with_reducible exact unhide SX _ (below_far (unhide EZ) (ez2 _ _ _))
                          | with_reducible exact unhide SX _ (below_far (unhide EZ) (ez1D _ _))
                          | with_reducible exact unhide SX _ (below_far (unhide EZ) (ez2D _ _ _))
                          | with_reducible exact unhide SX _ (ez1 _ _)
                          | with_reducible exact unhide SX _ (ez2 _ _ _)
                          | with_reducible exact unhide SX _ (ez1D _ _)
                          | with_reducible exact unhide SX _ (ez2D _ _ _)
                          | fail
                      clear hK K
                      try simp only [Act.put, List.setIfInBounds_toArray, List.set_cons_zero, List.set_cons_succ]
                      refine wpAnyH_ready (rs := [16]) (by kernel_rfl) (by simp) ?_
                      refine AllReadyH.cons rfl (fun K hK => ?_) ?_
                      · go_simp
                        refine hK.out _ _ ?_ (fun hHeld => ?_)
                        · first
                            | with_reducible exact unhide SX _ (unhide EZ)
                            | with_reducible refine (cell_six ?_).trans (unhide SX _ (unhide EZ)); (have := unhide A1W; omega)
                            | with_reducible exact unhide SX _ (below_far (unhide EZ) (ez1 _ _))
                            | with_reducible exact unhide SX _ (below_far (unhide EZ) (ez2 _ _ _))
                            | with_reducible exact unhide SX _ (below_far (unhide EZ) (ez1D _ _))
                            | with_reducible exact unhide SX _ (below_far (unhide EZ) (ez2D _ _ _))
                            | with_reducible exact unhide SX _ (ez1 _ _)
                            | with_reducible exact unhide SX _ (ez2 _ _ _)
                            | with_reducible exact unhide SX _ (ez1D _ _)
                            | with_reducible exact unhide SX _ (ez2D _ _ _)
                            | fail
                        clear hK K
                        try simp only [Act.put, List.setIfInBounds_toArray, List.set_cons_zero, List.set_cons_succ]
                        refine wpAnyH_ready (rs := [17]) (by kernel_rfl) (by simp) ?_
                        refine AllReadyH.cons rfl (fun K hK => ?_) ?_
                        · go_simp
                          refine hK.out _ _ ?_ (fun hHeld => ?_)
                          · first
                              | with_reducible exact unhide SX _ (unhide EZ)
                              | with_reducible refine (cell_six ?_).trans (unhide SX _ (unhide EZ)); (have := unhide A1W; omega)
                              | with_reducible exact unhide SX _ (below_far (unhide EZ) (ez1 _ _))
                              | with_reducible exact unhide SX _ (below_far (unhide EZ) (ez2 _ _ _))
                              | with_reducible exact unhide SX _ (below_far (unhide EZ) (ez1D _ _))
                              | with_reducible exact unhide SX _ (below_far (unhide EZ) (ez2D _ _ _))
                              | with_reducible exact unhide SX _ (ez1 _ _)
                              | with_reducible exact unhide SX _ (ez2 _ _ _)
                              | with_reducible exact unhide SX _ (ez1D _ _)
                              | with_reducible exact unhide SX _ (ez2D _ _ _)
                              | fail
                          clear hK K
                          try simp only [Act.put, List.setIfInBounds_toArray, List.set_cons_zero, List.set_cons_succ]
                          refine wpAnyH_done (by kernel_rfl) ?_ _
                          refine NoPanic.normal ?_
                          go_wp2_with fail
                          go_meet
                          exact ⟨_, mo, mc, rfl, sz2, new_end (unhide I2) (unhide F2) (unhide EZ) _ _ _⟩
                        exact AllReadyH.nil
                      exact AllReadyH.nil
                    refine AllReadyH.cons rfl (fun K hK => ?_) ?_
                    · go_simp
                      refine hK.out _ _ ?_ (fun hHeld => ?_)
                      · first
                          | with_reducible exact unhide SX _ (unhide EZ)
                          | with_reducible refine (cell_six ?_).trans (unhide SX _ (unhide EZ)); (have := unhide A1W; omega)
                          | with_reducible exact unhide SX _ (below_far (unhide EZ) (ez1 _ _))
                          | with_reducible exact unhide SX _ (below_far (unhide EZ) (ez2 _ _ _))
                          | with_reducible exact unhide SX _ (below_far (unhide EZ) (ez1D _ _))
                          | with_reducible exact unhide SX _ (below_far (unhide EZ) (ez2D _ _ _))
                          | with_reducible exact unhide SX _ (ez1 _ _)
                          | with_reducible exact unhide SX _ (ez2 _ _ _)
                          | with_reducible exact unhide SX _ (ez1D _ _)
                          | with_reducible exact unhide SX _ (ez2D _ _ _)
                          | fail
                      clear hK K
                      try simp only [Act.put, List.setIfInBounds_toArray, List.set_cons_zero, List.set_cons_succ]
                      refine wpAnyH_ready (rs := [15]) (by kernel_rfl) (by simp) ?_
                      refine AllReadyH.cons rfl (fun K hK => ?_) ?_
                      · go_simp
                        refine (unhide GO _ (by decide) _ _ _).mono ?_
                        rintro e z2 ⟨rfl, b2⟩
                        obtain ⟨i2, f2, k2, k2', n2, e2⟩ := good_arm (wr := wr) (z1 := z1) (by first | with_reducible exact Below.refl _ z1 | with_reducible exact ez1 z1 _ | with_reducible exact ez2 z1 _ _ | fail) b2 (unhide I1) (unhide F1) (unhide EZ)
                        have I2 := hide i2
                        have F2 := hide f2
                        have sz2 := e2.size
                        have KC := hide (And.intro (k2 _ _ (box_at z1 boxZ)) (n2 _ (Nat.le_refl _)))
                        obtain ⟨⟨d0, d1, d2, d3, d4, d5⟩, fz⟩ := six_rules (unhide KC).1
                        clear EZ i2 f2 k2 k2' n2 b2
                        have EZ := hide e2
                        clear e2
                        go_wp2_with fail
                        refine hK.out _ _ ?_ (fun hHeld => ?_)
                        · first
                            | with_reducible exact unhide SX _ (unhide EZ)
                            | with_reducible refine (cell_six ?_).trans (unhide SX _ (unhide EZ)); (have := unhide A1W; omega)
                            | with_reducible exact unhide SX _ (below_far (unhide EZ) (ez1 _ _))
                            | with_reducible exact unhide SX _ (below_far (unhide EZ) (ez2 _ _ _))
                            | with_reducible exact unhide SX _ (below_far (unhide EZ) (ez1D _ _))
                            | with_reducible exact unhide SX _ (below_far (unhide EZ) (ez2D _ _ _))
                            | with_reducible exact unhide SX _ (ez1 _ _)
                            | with_reducible exact unhide SX _ (ez2 _ _ _)
                            | with_reducible exact unhide SX _ (ez1D _ _)
                            | with_reducible exact unhide SX _ (ez2D _ _ _)
                            | fail
                        clear hK K
                        try simp only [Act.put, List.setIfInBounds_toArray, List.set_cons_zero, List.set_cons_succ]
                        refine wpAnyH_ready (rs := [17]) (by kernel_rfl) (by simp) ?_
                        refine AllReadyH.cons rfl (fun K hK => ?_) ?_
                        · go_simp
                          refine hK.out _ _ ?_ (fun hHeld => ?_)
                          · first
                              | with_reducible exact unhide SX _ (unhide EZ)
                              | with_reducible refine (cell_six ?_).trans (unhide SX _ (unhide EZ)); (have := unhide A1W; omega)
                              | with_reducible exact unhide SX _ (below_far (unhide EZ) (ez1 _ _))
                              | with_reducible exact unhide SX _ (below_far (unhide EZ) (ez2 _ _ _))
                              | with_reducible exact unhide SX _ (below_far (unhide EZ) (ez1D _ _))
                              | with_reducible exact unhide SX _ (below_far (unhide EZ) (ez2D _ _ _))
                              | with_reducible exact unhide SX _ (ez1 _ _)
                              | with_reducible exact unhide SX _ (ez2 _ _ _)
                              | with_reducible exact unhide SX _ (ez1D _ _)
                              | with_reducible exact unhide SX _ (ez2D _ _ _)
                              | fail
                          clear hK K
                          try simp only [Act.put, List.setIfInBounds_toArray, List.set_cons_zero, List.set_cons_succ]
                          refine wpAnyH_done (by kernel_rfl) ?_ _
                          refine NoPanic.normal ?_
                          go_wp2_with fail
                          go_meet
                          exact ⟨_, mo, mc, rfl, by first | exact Nat.le_refl _ | omega | fail, mem_end (unhide KC).1 (unhide KC).2 (unhide I2) (unhide F2) (unhide EZ) (by first | exact Nat.le_refl _ | omega | fail) _ _ _⟩
                        exact AllReadyH.nil
                      exact AllReadyH.nil
                    exact AllReadyH.nil
                  refine AllReadyH.cons rfl (fun K hK => ?_) ?_
                  · go_simp
                    refine hK.out _ _ ?_ (fun hHeld => ?_)
                    · first
                        | with_reducible exact unhide SX _ (unhide EZ)
                        | with_reducible refine (cell_six ?_).trans (unhide SX _ (unhide EZ)); (have := unhide A1W; omega)
                        | with_reducible exact unhide SX _ (below_far (unhide EZ) (ez1 _ _))
                        | with_reducible exact unhide SX _ (below_far (unhide EZ) (ez2 _ _ _))
                        | with_reducible exact unhide SX _ (below_far (unhide EZ) (ez1D _ _))
                        | with_reducible exact unhide SX _ (below_far (unhide EZ) (ez2D _ _ _))
                        | with_reducible exact unhide SX _ (ez1 _ _)
                        | with_reducible exact unhide SX _ (ez2 _ _ _)
                        | with_reducible exact unhide SX _ (ez1D _ _)
                        | with_reducible exact unhide SX _ (ez2D _ _ _)
                        | fail
                    clear hK K
                    try simp only [Act.put, List.setIfInBounds_toArray, List.set_cons_zero, List.set_cons_succ]
                    refine wpAnyH_ready (rs := [7]) (by kernel_rfl) (by simp) ?_
                    refine AllReadyH.cons rfl (fun K hK => ?_) ?_
                    · go_simp
                      refine hK.out _ _ ?_ (fun hHeld => ?_)
                      · first
                          | with_reducible exact unhide SX _ (unhide EZ)
                          | with_reducible refine (cell_six ?_).trans (unhide SX _ (unhide EZ)); (have := unhide A1W; omega)
                          | with_reducible exact unhide SX _ (below_far (unhide EZ) (ez1 _ _))
                          | with_reducible exact unhide SX _ (below_far (unhide EZ) (ez2 _ _ _))
                          | with_reducible exact unhide SX _ (below_far (unhide EZ) (ez1D _ _))
                          | with_reducible exact unhide SX _ (below_far (unhide EZ) (ez2D _ _ _))
                          | with_reducible exact unhide SX _ (ez1 _ _)
                          | with_reducible exact unhide SX _ (ez2 _ _ _)
                          | with_reducible exact unhide SX _ (ez1D _ _)
                          | with_reducible exact unhide SX _ (ez2D _ _ _)
                          | fail
                      clear hK K
                      try simp only [Act.put, List.setIfInBounds_toArray, List.set_cons_zero, List.set_cons_succ]
                      refine wpAnyH_take (i := 14) (v := ?_) rfl (by kernel_rfl) (by kernel_rfl) (by kernel_rfl) (fun _ _ _ h => h) (Or.inl ⟨by rfl, ?_⟩) (by assumption) ?_
                      rotate_left 1
                      · intro Y hY
                        go_simp
                        all_goals with_reducible rfl
                      dsimp only [Act.put]
                      try simp only [List.setIfInBounds_toArray, List.set_cons_zero, List.set_cons_succ]
                      refine wpAnyH_ready (rs := [15]) (by kernel_rfl) (by simp) ?_
                      refine AllReadyH.cons rfl (fun K hK => ?_) ?_
                      · go_simp
                        refine (unhide GO _ (by decide) _ _ _).mono ?_
                        rintro e z2 ⟨rfl, b2⟩
                        obtain ⟨i2, f2, k2, k2', n2, e2⟩ := good_arm (wr := wr) (z1 := z1) (by first | with_reducible exact Below.refl _ z1 | with_reducible exact ez1 z1 _ | with_reducible exact ez2 z1 _ _ | fail) b2 (unhide I1) (unhide F1) (unhide EZ)
                        have I2 := hide i2
                        have F2 := hide f2
                        have sz2 := e2.size
                        have KC := hide (And.intro (k2 _ _ (box_at z1 boxZ)) (n2 _ (Nat.le_refl _)))
                        obtain ⟨⟨d0, d1, d2, d3, d4, d5⟩, fz⟩ := six_rules (unhide KC).1
                        clear EZ i2 f2 k2 k2' n2 b2
                        have EZ := hide e2
                        clear e2
                        go_wp2_with fail
                        refine hK.out _ _ ?_ (fun hHeld => ?_)
                        · first
                            | with_reducible exact unhide SX _ (unhide EZ)
                            | with_reducible refine (cell_six ?_).trans (unhide SX _ (unhide EZ)); (have := unhide A1W; omega)
                            | with_reducible exact unhide SX _ (below_far (unhide EZ) (ez1 _ _))
                            | with_reducible exact unhide SX _ (below_far (unhide EZ) (ez2 _ _ _))
                            | with_reducible exact unhide SX _ (below_far (unhide EZ) (ez1D _ _))
                            | with_reducible exact unhide SX _ (below_far (unhide EZ) (ez2D _ _ _))
                            | with_reducible exact unhide SX _ (ez1 _ _)
                            | with_reducible exact unhide SX _ (ez2 _ _ _)
                            | with_reducible exact unhide SX _ (ez1D _ _)
                            | with_reducible exact unhide SX _ (ez2D _ _ _)
                            | fail
                        clear hK K
                        try simp only [Act.put, List.setIfInBounds_toArray, List.set_cons_zero, List.set_cons_succ]
                        refine wpAnyH_ready (rs := [17]) (by kernel_rfl) (by simp) ?_
                        refine AllReadyH.cons rfl (fun K hK => ?_) ?_
                        · go_simp
                          refine hK.out _ _ ?_ (fun hHeld => ?_)
                          · first
                              | with_reducible exact unhide SX _ (unhide EZ)
                              | with_reducible refine (cell_six ?_).trans (unhide SX _ (unhide EZ)); (have := unhide A1W; omega)
                              | with_reducible exact unhide SX _ (below_far (unhide EZ) (ez1 _ _))
                              | with_reducible exact unhide SX _ (below_far (unhide EZ) (ez2 _ _ _))
                              | with_reducible exact unhide SX _ (below_far (unhide EZ) (ez1D _ _))
                              | with_reducible exact unhide SX _ (below_far (unhide EZ) (ez2D _ _ _))
                              | with_reducible exact unhide SX _ (ez1 _ _)
                              | with_reducible exact unhide SX _ (ez2 _ _ _)
                              | with_reducible exact unhide SX _ (ez1D _ _)
                              | with_reducible exact unhide SX _ (ez2D _ _ _)
                              | fail
                          clear hK K
                          try simp only [Act.put, List.setIfInBounds_toArray, List.set_cons_zero, List.set_cons_succ]
                          refine wpAnyH_done (by kernel_rfl) ?_ _
                          refine NoPanic.normal ?_
                          go_wp2_with fail
                          go_meet
                          exact ⟨_, mo, mc, rfl, by first | exact Nat.le_refl _ | omega | fail, mem_end (unhide KC).1 (unhide KC).2 (unhide I2) (unhide F2) (unhide EZ) (by first | exact Nat.le_refl _ | omega | fail) _ _ _⟩
                        exact AllReadyH.nil
                      exact AllReadyH.nil
                    exact AllReadyH.nil
                  exact AllReadyH.nil
                refine AllReadyH.cons rfl (fun K hK => ?_) ?_
                · go_simp
                  refine hK.out _ _ ?_ (fun hHeld => ?_)
                  · first
                      | with_reducible exact unhide SX _ (unhide EZ)
                      | with_reducible refine (cell_six ?_).trans (unhide SX _ (unhide EZ)); (have := unhide A1W; omega)
                      | with_reducible exact unhide SX _ (below_far (unhide EZ) (ez1 _ _))
                      | with_reducible exact unhide SX _ (below_far (unhide EZ) (ez2 _ _ _))
                      | with_reducible exact unhide SX _ (below_far (unhide EZ) (ez1D _ _))
                      | with_reducible exact unhide SX _ (below_far (unhide EZ) (ez2D _ _ _))
                      | with_reducible exact unhide SX _ (ez1 _ _)
                      | with_reducible exact unhide SX _ (ez2 _ _ _)
                      | with_reducible exact unhide SX _ (ez1D _ _)
                      | with_reducible exact unhide SX _ (ez2D _ _ _)
                      | fail
                  clear hK K
                  try simp only [Act.put, List.setIfInBounds_toArray, List.set_cons_zero, List.set_cons_succ]
                  refine wpAnyH_ready (rs := [7, 13]) (by kernel_rfl) (by simp) ?_
                  refine AllReadyH.cons rfl (fun K hK => ?_) ?_
                  · go_simp
                    refine hK.out _ _ ?_ (fun hHeld => ?_)
                    · first
                        | with_reducible exact unhide SX _ (unhide EZ)
                        | with_reducible refine (cell_six ?_).trans (unhide SX _ (unhide EZ)); (have := unhide A1W; omega)
                        | with_reducible exact unhide SX _ (below_far (unhide EZ) (ez1 _ _))
                        | with_reducible exact unhide SX _ (below_far (unhide EZ) (ez2 _ _ _))
                        | with_reducible exact unhide SX _ (below_far (unhide EZ) (ez1D _ _))
                        | with_reducible exact unhide SX _ (below_far (unhide EZ) (ez2D _ _ _))
                        | with_reducible exact unhide SX _ (ez1 _ _)
                        | with_reducible exact unhide SX _ (ez2 _ _ _)
                        | with_reducible exact unhide SX _ (ez1D _ _)
                        | with_reducible exact unhide SX _ (ez2D _ _ _)
                        | fail
                    clear hK K
                    try simp only [Act.put, List.setIfInBounds_toArray, List.set_cons_zero, List.set_cons_succ]
                    refine wpAnyH_ready (rs := [13]) (by kernel_rfl) (by simp) ?_
                    refine AllReadyH.cons rfl (fun K hK => ?_) ?_
                    · go_simp
                      refine (unhide LI _).mono ?_
                      rintro e z1 ⟨mo, mc, rfl, i1, b1⟩
                      obtain ⟨F, i1, f1, k1, b1⟩ := lst_arm (wr := wr) (by first | with_reducible exact ez0D wr | with_reducible exact ez1D wr _ | with_reducible exact ez2D wr _ _ | fail) i1 b1
                      have I1 := hide i1
                      have F1 := hide f1
                      have sz1 := b1.size
                      have KB := hide (k1 _ _ (box2D wr rowK boxZ).2)
                      clear EZ i1 f1 k1
                      have EZ := hide b1
                      clear b1
                      go_wp2_with fail
                      refine hK.out _ _ ?_ (fun hHeld => ?_)
                      · first
                          | with_reducible exact unhide SX _ (unhide EZ)
                          | with_reducible refine (cell_six ?_).trans (unhide SX _ (unhide EZ)); (have := unhide A1W; omega)
                          | with_reducible exact unhide SX _ (below_far (unhide EZ) (ez1 _ _))
                          | with_reducible exact unhide SX _ (below_far (unhide EZ) (ez2 _ _ _))
                          | with_reducible exact unhide SX _ (below_far (unhide EZ) (ez1D _ _))
                          | with_reducible exact unhide SX _ (below_far (unhide EZ) (ez2D _ _ _))
                          | with_reducible exact unhide SX _ (ez1 _ _)
                          | with_reducible exact unhide SX _ (ez2 _ _ _)
                          | with_reducible exact unhide SX _ (ez1D _ _)
                          | with_reducible exact unhide SX _ (ez2D _ _ _)
                          | fail
                      clear hK K
                      try simp only [Act.put, List.setIfInBounds_toArray, List.set_cons_zero, List.set_cons_succ]
                      refine wpAnyH_take (i := 14) (v := ?_) rfl (by kernel_rfl) (by kernel_rfl) (by kernel_rfl) (fun _ _ _ h => h) (Or.inl ⟨by rfl, ?_⟩) (by assumption) ?_
                      rotate_left 1
                      · intro Y hY
                        go_simp
                        all_goals with_reducible rfl
                      dsimp only [Act.put]
                      try simp only [List.setIfInBounds_toArray, List.set_cons_zero, List.set_cons_succ]
                      refine wpAnyH_ready (rs := [15]) (by kernel_rfl) (by simp) ?_
                      refine AllReadyH.cons rfl (fun K hK => ?_) ?_
                      · go_simp
                        refine (unhide GO _ (by decide) _ _ _).mono ?_
                        rintro e z2 ⟨rfl, b2⟩
                        obtain ⟨i2, f2, k2, k2', n2, e2⟩ := good_arm (wr := wr) (z1 := z1) (by first | with_reducible exact Below.refl _ z1 | with_reducible exact ez1 z1 _ | with_reducible exact ez2 z1 _ _ | fail) b2 (unhide I1) (unhide F1) (unhide EZ)
                        have I2 := hide i2
                        have F2 := hide f2
                        have sz2 := e2.size
                        have KC := hide (And.intro (k2' _ _ (unhide KB).1) (unhide KB).2)
                        obtain ⟨⟨d0, d1, d2, d3, d4, d5⟩, fz⟩ := six_rules (unhide KC).1
                        clear EZ i2 f2 k2 k2' n2 b2
                        have EZ := hide e2
                        clear e2
                        go_wp2_with fail
                        refine hK.out _ _ ?_ (fun hHeld => ?_)
                        · first
                            | with_reducible exact unhide SX _ (unhide EZ)
                            | with_reducible refine (cell_six ?_).trans (unhide SX _ (unhide EZ)); (have := unhide A1W; omega)
                            | with_reducible exact unhide SX _ (below_far (unhide EZ) (ez1 _ _))
                            | with_reducible exact unhide SX _ (below_far (unhide EZ) (ez2 _ _ _))
                            | with_reducible exact unhide SX _ (below_far (unhide EZ) (ez1D _ _))
                            | with_reducible exact unhide SX _ (below_far (unhide EZ) (ez2D _ _ _))
                            | with_reducible exact unhide SX _ (ez1 _ _)
                            | with_reducible exact unhide SX _ (ez2 _ _ _)
                            | with_reducible exact unhide SX _ (ez1D _ _)
                            | with_reducible exact unhide SX _ (ez2D _ _ _)
                            | fail
                        clear hK K
                        try simp only [Act.put, List.setIfInBounds_toArray, List.set_cons_zero, List.set_cons_succ]
                        refine wpAnyH_ready (rs := [17]) (by kernel_rfl) (by simp) ?_
                        refine AllReadyH.cons rfl (fun K hK => ?_) ?_
                        · go_simp
                          refine hK.out _ _ ?_ (fun hHeld => ?_)
                          · first
                              | with_reducible exact unhide SX _ (unhide EZ)
                              | with_reducible refine (cell_six ?_).trans (unhide SX _ (unhide EZ)); (have := unhide A1W; omega)
                              | with_reducible exact unhide SX _ (below_far (unhide EZ) (ez1 _ _))
                              | with_reducible exact unhide SX _ (below_far (unhide EZ) (ez2 _ _ _))
                              | with_reducible exact unhide SX _ (below_far (unhide EZ) (ez1D _ _))
                              | with_reducible exact unhide SX _ (below_far (unhide EZ) (ez2D _ _ _))
                              | with_reducible exact unhide SX _ (ez1 _ _)
                              | with_reducible exact unhide SX _ (ez2 _ _ _)
                              | with_reducible exact unhide SX _ (ez1D _ _)
                              | with_reducible exact unhide SX _ (ez2D _ _ _)
                              | fail
                          clear hK K
                          try simp only [Act.put, List.setIfInBounds_toArray, List.set_cons_zero, List.set_cons_succ]
                          refine wpAnyH_done (by kernel_rfl) ?_ _
                          refine NoPanic.normal ?_
                          go_wp2_with fail
                          go_meet
                          exact ⟨_, mo, mc, rfl, by first | exact Nat.le_refl _ | omega | fail, mem_end (unhide KC).1 (unhide KC).2 (unhide I2) (unhide F2) (unhide EZ) (by first | exact Nat.le_refl _ | omega | fail) _ _ _⟩
                        exact AllReadyH.nil
                      exact AllReadyH.nil
                    exact AllReadyH.nil
                  refine AllReadyH.cons rfl (fun K hK => ?_) ?_
                  · go_simp
                    refine (unhide LI _).mono ?_
                    rintro e z1 ⟨mo, mc, rfl, i1, b1⟩
                    obtain ⟨F, i1, f1, k1, b1⟩ := lst_arm (wr := wr) (by first | with_reducible exact ez0D wr | with_reducible exact ez1D wr _ | with_reducible exact ez2D wr _ _ | fail) i1 b1
                    have I1 := hide i1
                    have F1 := hide f1
                    have sz1 := b1.size
                    have KB := hide (k1 _ _ (box2D wr rowK boxZ).2)
                    have RR := (k1 _ _ (box2D wr rowK boxZ).1).1
                    obtain ⟨r0, r1, r2⟩ := row_rules RR
                    have ra := fun o => (row_rules (Below.stay (ez1 z1 o) RR)).1
                    have rb := fun o => (row_rules (Below.stay (ez1 z1 o) RR)).2.1
                    have rc := fun o => (row_rules (Below.stay (ez1 z1 o) RR)).2.2
                    clear RR
                    clear EZ i1 f1 k1
                    have EZ := hide b1
                    clear b1
                    go_wp2_with fail
                    refine hK.out _ _ ?_ (fun hHeld => ?_)
                    · first
                        | with_reducible exact unhide SX _ (unhide EZ)
                        | with_reducible refine (cell_six ?_).trans (unhide SX _ (unhide EZ)); (have := unhide A1W; omega)
                        | with_reducible exact unhide SX _ (below_far (unhide EZ) (ez1 _ _))
                        | with_reducible exact unhide SX _ (below_far (unhide EZ) (ez2 _ _ _))
                        | with_reducible exact unhide SX _ (below_far (unhide EZ) (ez1D _ _))
                        | with_reducible exact unhide SX _ (below_far (unhide EZ) (ez2D _ _ _))
                        | with_reducible exact unhide SX _ (ez1 _ _)
                        | with_reducible exact unhide SX _ (ez2 _ _ _)
                        | with_reducible exact unhide SX _ (ez1D _ _)
                        | with_reducible exact unhide SX _ (ez2D _ _ _)
                        | fail
                    clear hK K
                    try simp only [Act.put, List.setIfInBounds_toArray, List.set_cons_zero, List.set_cons_succ]
                    refine wpAnyH_ready (rs := [7]) (by kernel_rfl) (by simp) ?_
                    refine AllReadyH.cons rfl (fun K hK => ?_) ?_
                    · go_simp
                      refine hK.out _ _ ?_ (fun hHeld => ?_)
                      · first
                          | with_reducible exact unhide SX _ (unhide EZ)
                          | with_reducible refine (cell_six ?_).trans (unhide SX _ (unhide EZ)); (have := unhide A1W; omega)
                          | with_reducible exact unhide SX _ (below_far (unhide EZ) (ez1 _ _))
                          | with_reducible exact unhide SX _ (below_far (unhide EZ) (ez2 _ _ _))
                          | with_reducible exact unhide SX _ (below_far (unhide EZ) (ez1D _ _))
                          | with_reducible exact unhide SX _ (below_far (unhide EZ) (ez2D _ _ _))
                          | with_reducible exact unhide SX _ (ez1 _ _)
                          | with_reducible exact unhide SX _ (ez2 _ _ _)
                          | with_reducible exact unhide SX _ (ez1D _ _)
                          | with_reducible exact unhide SX _ (ez2D _ _ _)
                          | fail
                      clear hK K
                      try simp only [Act.put, List.setIfInBounds_toArray, List.set_cons_zero, List.set_cons_succ]
                      refine wpAnyH_take (i := 14) (v := ?_) rfl (by kernel_rfl) (by kernel_rfl) (by kernel_rfl) (fun _ _ _ h => h) (Or.inl ⟨by rfl, ?_⟩) (by assumption) ?_
                      rotate_left 1
                      · intro Y hY
                        go_simp
                        all_goals with_reducible rfl
                      dsimp only [Act.put]
                      try simp only [List.setIfInBounds_toArray, List.set_cons_zero, List.set_cons_succ]
                      refine wpAnyH_ready (rs := [15]) (by kernel_rfl) (by simp) ?_
                      refine AllReadyH.cons rfl (fun K hK => ?_) ?_
                      · go_simp
                        refine (unhide GO _ (by decide) _ _ _).mono ?_
                        rintro e z2 ⟨rfl, b2⟩
                        obtain ⟨i2, f2, k2, k2', n2, e2⟩ := good_arm (wr := wr) (z1 := z1) (by first | with_reducible exact Below.refl _ z1 | with_reducible exact ez1 z1 _ | with_reducible exact ez2 z1 _ _ | fail) b2 (unhide I1) (unhide F1) (unhide EZ)
                        have I2 := hide i2
                        have F2 := hide f2
                        have sz2 := e2.size
                        have KC := hide (And.intro (k2' _ _ (unhide KB).1) (unhide KB).2)
                        obtain ⟨⟨d0, d1, d2, d3, d4, d5⟩, fz⟩ := six_rules (unhide KC).1
                        clear EZ i2 f2 k2 k2' n2 b2
                        have EZ := hide e2
                        clear e2
                        go_wp2_with fail
                        refine hK.out _ _ ?_ (fun hHeld => ?_)
                        · first
                            | with_reducible exact unhide SX _ (unhide EZ)
                            | with_reducible refine (cell_six ?_).trans (unhide SX _ (unhide EZ)); (have := unhide A1W; omega)
                            | with_reducible exact unhide SX _ (below_far (unhide EZ) (ez1 _ _))
                            | with_reducible exact unhide SX _ (below_far (unhide EZ) (ez2 _ _ _))
                            | with_reducible exact unhide SX _ (below_far (unhide EZ) (ez1D _ _))
                            | with_reducible exact unhide SX _ (below_far (unhide EZ) (ez2D _ _ _))
                            | with_reducible exact unhide SX _ (ez1 _ _)
                            | with_reducible exact unhide SX _ (ez2 _ _ _)
                            | with_reducible exact unhide SX _ (ez1D _ _)
                            | with_reducible exact unhide SX _ (ez2D _ _ _)
                            | fail
                        clear hK K
                        try simp only [Act.put, List.setIfInBounds_toArray, List.set_cons_zero, List.set_cons_succ]
                        refine wpAnyH_ready (rs := [17]) (by kernel_rfl) (by simp) ?_
                        refine AllReadyH.cons rfl (fun K hK => ?_) ?_
                        · go_simp
                          refine hK.out _ _ ?_ (fun hHeld => ?_)
                          · first
                              | with_reducible exact unhide SX _ (unhide EZ)
                              | with_reducible refine (cell_six ?_).trans (unhide SX _ (unhide EZ)); (have := unhide A1W; omega)
                              | with_reducible exact unhide SX _ (below_far (unhide EZ) (ez1 _ _))
                              | with_reducible exact unhide SX _ (below_far (unhide EZ) (ez2 _ _ _))
                              | with_reducible exact unhide SX _ (below_far (unhide EZ) (ez1D _ _))
                              | with_reducible exact unhide SX _ (below_far (unhide EZ) (ez2D _ _ _))
                              | with_reducible exact unhide SX _ (ez1 _ _)
                              | with_reducible exact unhide SX _ (ez2 _ _ _)
                              | with_reducible exact unhide SX _ (ez1D _ _)
                              | with_reducible exact unhide SX _ (ez2D _ _ _)
                              | fail
                          clear hK K
                          try simp only [Act.put, List.setIfInBounds_toArray, List.set_cons_zero, List.set_cons_succ]
                          refine wpAnyH_done (by kernel_rfl) ?_ _
                          refine NoPanic.normal ?_
                          go_wp2_with fail
                          go_meet
                          exact ⟨_, mo, mc, rfl, by first | exact Nat.le_refl _ | omega | fail, mem_end (unhide KC).1 (unhide KC).2 (unhide I2) (unhide F2) (unhide EZ) (by first | exact Nat.le_refl _ | omega | fail) _ _ _⟩
                        exact AllReadyH.nil
                      exact AllReadyH.nil
                    exact AllReadyH.nil
                  exact AllReadyH.nil
                exact AllReadyH.nil
              refine AllReadyH.cons rfl (fun K hK => ?_) ?_
              · go_simp
                refine hK.out _ _ ?_ (fun hHeld => ?_)
                · first
                    | with_reducible exact unhide SX _ (unhide EZ)
                    | with_reducible refine (cell_six ?_).trans (unhide SX _ (unhide EZ)); (have := unhide A1W; omega)
                    | with_reducible exact unhide SX _ (below_far (unhide EZ) (ez1 _ _))
                    | with_reducible exact unhide SX _ (below_far (unhide EZ) (ez2 _ _ _))
                    | with_reducible exact unhide SX _ (below_far (unhide EZ) (ez1D _ _))
                    | with_reducible exact unhide SX _ (below_far (unhide EZ) (ez2D _ _ _))
                    | with_reducible exact unhide SX _ (ez1 _ _)
                    | with_reducible exact unhide SX _ (ez2 _ _ _)
                    | with_reducible exact unhide SX _ (ez1D _ _)
                    | with_reducible exact unhide SX _ (ez2D _ _ _)
                    | fail
                clear hK K
                try simp only [Act.put, List.setIfInBounds_toArray, List.set_cons_zero, List.set_cons_succ]
                refine wpAnyH_ready (rs := [5]) (by kernel_rfl) (by simp) ?_
                refine AllReadyH.cons rfl (fun K hK => ?_) ?_
                · go_simp
                  refine (unhide WI _).mono ?_
                  rintro e zz ⟨rfl, hw⟩
                  replace hw := hw.symm
                  subst hw
                  go_wp2_with fail
                  refine hK.out _ _ ?_ (fun hHeld => ?_)
                  · first
                      | with_reducible exact unhide SX _ (unhide EZ)
                      | with_reducible refine (cell_six ?_).trans (unhide SX _ (unhide EZ)); (have := unhide A1W; omega)
                      | with_reducible exact unhide SX _ (below_far (unhide EZ) (ez1 _ _))
                      | with_reducible exact unhide SX _ (below_far (unhide EZ) (ez2 _ _ _))
                      | with_reducible exact unhide SX _ (below_far (unhide EZ) (ez1D _ _))
                      | with_reducible exact unhide SX _ (below_far (unhide EZ) (ez2D _ _ _))
                      | with_reducible exact unhide SX _ (ez1 _ _)
                      | with_reducible exact unhide SX _ (ez2 _ _ _)
                      | with_reducible exact unhide SX _ (ez1D _ _)
                      | with_reducible exact unhide SX _ (ez2D _ _ _)
                      | fail
                  clear hK K
                  try simp only [Act.put, List.setIfInBounds_toArray, List.set_cons_zero, List.set_cons_succ]
                  refine wpAnyH_take (i := 6) (v := ?_) rfl (by kernel_rfl) (by kernel_rfl) (by kernel_rfl) (fun _ _ _ h => h) (Or.inl ⟨by rfl, ?_⟩) (by assumption) ?_
                  rotate_left 1
                  · intro Y hY
                    go_simp
                    all_goals with_reducible rfl
                  dsimp only [Act.put]
                  try simp only [List.setIfInBounds_toArray, List.set_cons_zero, List.set_cons_succ]
                  refine wpAnyH_ready (rs := [7, 13]) (by kernel_rfl) (by simp) ?_
                  refine AllReadyH.cons rfl (fun K hK => ?_) ?_
                  · go_simp
                    refine hK.out _ _ ?_ (fun hHeld => ?_)
                    · first
                        | with_reducible exact unhide SX _ (unhide EZ)
                        | with_reducible refine (cell_six ?_).trans (unhide SX _ (unhide EZ)); (have := unhide A1W; omega)
                        | with_reducible exact unhide SX _ (below_far (unhide EZ) (ez1 _ _))
                        | with_reducible exact unhide SX _ (below_far (unhide EZ) (ez2 _ _ _))
                        | with_reducible exact unhide SX _ (below_far (unhide EZ) (ez1D _ _))
                        | with_reducible exact unhide SX _ (below_far (unhide EZ) (ez2D _ _ _))
                        | with_reducible exact unhide SX _ (ez1 _ _)
                        | with_reducible exact unhide SX _ (ez2 _ _ _)
                        | with_reducible exact unhide SX _ (ez1D _ _)
                        | with_reducible exact unhide SX _ (ez2D _ _ _)
                        | fail
                    clear hK K
                    try simp only [Act.put, List.setIfInBounds_toArray, List.set_cons_zero, List.set_cons_succ]
                    refine wpAnyH_ready (rs := [13]) (by kernel_rfl) (by simp) ?_
                    refine AllReadyH.cons rfl (fun K hK => ?_) ?_
                    · go_simp
                      refine (unhide LI _).mono ?_
                      rintro e z1 ⟨mo, mc, rfl, i1, b1⟩
                      obtain ⟨F, i1, f1, k1, b1⟩ := lst_arm (wr := wr) (by first | with_reducible exact ez0D wr | with_reducible exact ez1D wr _ | with_reducible exact ez2D wr _ _ | fail) i1 b1
                      have I1 := hide i1
                      have F1 := hide f1
                      have sz1 := b1.size
                      have KB := hide (k1 _ _ (box2D wr rowK boxZ).2)
                      clear EZ i1 f1 k1
                      have EZ := hide b1
                      clear b1
                      go_wp2_with fail
                      refine hK.out _ _ ?_ (fun hHeld => ?_)
                      · first
                          | with_reducible exact unhide SX _ (unhide EZ)
                          | with_reducible refine (cell_six ?_).trans (unhide SX _ (unhide EZ)); (have := unhide A1W; omega)
                          | with_reducible exact unhide SX _ (below_far (unhide EZ) (ez1 _ _))
                          | with_reducible exact unhide SX _ (below_far (unhide EZ) (ez2 _ _ _))
                          | with_reducible exact unhide SX _ (below_far (unhide EZ) (ez1D _ _))
                          | with_reducible exact unhide SX _ (below_far (unhide EZ) (ez2D _ _ _))
                          | with_reducible exact unhide SX _ (ez1 _ _)
                          | with_reducible exact unhide SX _ (ez2 _ _ _)
                          | with_reducible exact unhide SX _ (ez1D _ _)
                          | with_reducible exact unhide SX _ (ez2D _ _ _)
                          | fail
                      clear hK K
                      try simp only [Act.put, List.setIfInBounds_toArray, List.set_cons_zero, List.set_cons_succ]
                      refine wpAnyH_take (i := 14) (v := ?_) rfl (by kernel_rfl) (by kernel_rfl) (by kernel_rfl) (fun _ _ _ h => h) (Or.inl ⟨by rfl, ?_⟩) (by assumption) ?_
                      rotate_left 1
                      · intro Y hY
                        go_simp
                        all_goals with_reducible rfl
                      dsimp only [Act.put]
                      try simp only [List.setIfInBounds_toArray, List.set_cons_zero, List.set_cons_succ]
                      refine wpAnyH_ready (rs := [15]) (by kernel_rfl) (by simp) ?_
                      refine AllReadyH.cons rfl (fun K hK => ?_) ?_
                      · go_simp
                        refine (unhide GO _ (by decide) _ _ _).mono ?_
                        rintro e z2 ⟨rfl, b2⟩
                        obtain ⟨i2, f2, k2, k2', n2, e2⟩ := good_arm (wr := wr) (z1 := z1) (by first | with_reducible exact Below.refl _ z1 | with_reducible exact ez1 z1 _ | with_reducible exact ez2 z1 _ _ | fail) b2 (unhide I1) (unhide F1) (unhide EZ)
                        have I2 := hide i2
                        have F2 := hide f2
                        have sz2 := e2.size
                        have KC := hide (And.intro (k2' _ _ (unhide KB).1) (unhide KB).2)
                        obtain ⟨⟨d0, d1, d2, d3, d4, d5⟩, fz⟩ := six_rules (unhide KC).1
                        clear EZ i2 f2 k2 k2' n2 b2
                        have EZ := hide e2
                        clear e2
                        go_wp2_with fail
                        refine hK.out _ _ ?_ (fun hHeld => ?_)
                        · first
                            | with_reducible exact unhide SX _ (unhide EZ)
                            | with_reducible refine (cell_six ?_).trans (unhide SX _ (unhide EZ)); (have := unhide A1W; omega)
                            | with_reducible exact unhide SX _ (below_far (unhide EZ) (ez1 _ _))
                            | with_reducible exact unhide SX _ (below_far (unhide EZ) (ez2 _ _ _))
                            | with_reducible exact unhide SX _ (below_far (unhide EZ) (ez1D _ _))
                            | with_reducible exact unhide SX _ (below_far (unhide EZ) (ez2D _ _ _))
                            | with_reducible exact unhide SX _ (ez1 _ _)
                            | with_reducible exact unhide SX _ (ez2 _ _ _)
                            | with_reducible exact unhide SX _ (ez1D _ _)
                            | with_reducible exact unhide SX _ (ez2D _ _ _)
                            | fail
                        clear hK K
                        try simp only [Act.put, List.setIfInBounds_toArray, List.set_cons_zero, List.set_cons_succ]
                        refine wpAnyH_ready (rs := [17]) (by kernel_rfl) (by simp) ?_
                        refine AllReadyH.cons rfl (fun K hK => ?_) ?_
                        · go_simp
                          refine hK.out _ _ ?_ (fun hHeld => ?_)
                          · first
                              | with_reducible exact unhide SX _ (unhide EZ)
                              | with_reducible refine (cell_six ?_).trans (unhide SX _ (unhide EZ)); (have := unhide A1W; omega)
                              | with_reducible exact unhide SX _ (below_far (unhide EZ) (ez1 _ _))
                              | with_reducible exact unhide SX _ (below_far (unhide EZ) (ez2 _ _ _))
                              | with_reducible exact unhide SX _ (below_far (unhide EZ) (ez1D _ _))
                              | with_reducible exact unhide SX _ (below_far (unhide EZ) (ez2D _ _ _))
                              | with_reducible exact unhide SX _ (ez1 _ _)
                              | with_reducible exact unhide SX _ (ez2 _ _ _)
                              | with_reducible exact unhide SX _ (ez1D _ _)
                              | with_reducible exact unhide SX _ (ez2D _ _ _)
                              | fail
                          clear hK K
                          try simp only [Act.put, List.setIfInBounds_toArray, List.set_cons_zero, List.set_cons_succ]
                          refine wpAnyH_done (by kernel_rfl) ?_ _
                          refine NoPanic.normal ?_
                          go_wp2_with fail
                          go_meet
                          exact ⟨_, mo, mc, rfl, by first | exact Nat.le_refl _ | omega | fail, mem_end (unhide KC).1 (unhide KC).2 (unhide I2) (unhide F2) (unhide EZ) (by first | exact Nat.le_refl _ | omega | fail) _ _ _⟩
                        exact AllReadyH.nil
                      exact AllReadyH.nil
                    exact AllReadyH.nil
                  refine AllReadyH.cons rfl (fun K hK => ?_) ?_
                  · go_simp
                    refine (unhide LI _).mono ?_
                    rintro e z1 ⟨mo, mc, rfl, i1, b1⟩
                    obtain ⟨F, i1, f1, k1, b1⟩ := lst_arm (wr := wr) (by first | with_reducible exact ez0D wr | with_reducible exact ez1D wr _ | with_reducible exact ez2D wr _ _ | fail) i1 b1
                    have I1 := hide i1
                    have F1 := hide f1
                    have sz1 := b1.size
                    have KB := hide (k1 _ _ (box2D wr rowK boxZ).2)
                    have RR := (k1 _ _ (box2D wr rowK boxZ).1).1
                    obtain ⟨r0, r1, r2⟩ := row_rules RR
                    have ra := fun o => (row_rules (Below.stay (ez1 z1 o) RR)).1
                    have rb := fun o => (row_rules (Below.stay (ez1 z1 o) RR)).2.1
                    have rc := fun o => (row_rules (Below.stay (ez1 z1 o) RR)).2.2
                    clear RR
                    clear EZ i1 f1 k1
                    have EZ := hide b1
                    clear b1
                    go_wp2_with fail
                    refine hK.out _ _ ?_ (fun hHeld => ?_)
                    · first
                        | with_reducible exact unhide SX _ (unhide EZ)
                        | with_reducible refine (cell_six ?_).trans (unhide SX _ (unhide EZ)); (have := unhide A1W; omega)
                        | with_reducible exact unhide SX _ (below_far (unhide EZ) (ez1 _ _))
                        | with_reducible exact unhide SX _ (below_far (unhide EZ) (ez2 _ _ _))
                        | with_reducible exact unhide SX _ (below_far (unhide EZ) (ez1D _ _))
                        | with_reducible exact unhide SX _ (below_far (unhide EZ) (ez2D _ _ _))
                        | with_reducible exact unhide SX _ (ez1 _ _)
                        | with_reducible exact unhide SX _ (ez2 _ _ _)
                        | with_reducible exact unhide SX _ (ez1D _ _)
                        | with_reducible exact unhide SX _ (ez2D _ _ _)
                        | fail
                    clear hK K
                    try simp only [Act.put, List.setIfInBounds_toArray, List.set_cons_zero, List.set_cons_succ]
                    refine wpAnyH_ready (rs := [7]) (by kernel_rfl) (by simp) ?_
                    refine AllReadyH.cons rfl (fun K hK => ?_) ?_
                    · go_simp
                      refine hK.out _ _ ?_ (fun hHeld => ?_)
                      · first
                          | with_reducible exact unhide SX _ (unhide EZ)
                          | with_reducible refine (cell_six ?_).trans (unhide SX _ (unhide EZ)); (have := unhide A1W; omega)
                          | with_reducible exact unhide SX _ (below_far (unhide EZ) (ez1 _ _))
                          | with_reducible exact unhide SX _ (below_far (unhide EZ) (ez2 _ _ _))
                          | with_reducible exact unhide SX _ (below_far (unhide EZ) (ez1D _ _))
                          | with_reducible exact unhide SX _ (below_far (unhide EZ) (ez2D _ _ _))
                          | with_reducible exact unhide SX _ (ez1 _ _)
                          | with_reducible exact unhide SX _ (ez2 _ _ _)
                          | with_reducible exact unhide SX _ (ez1D _ _)
                          | with_reducible exact unhide SX _ (ez2D _ _ _)
                          | fail
                      clear hK K
                      try simp only [Act.put, List.setIfInBounds_toArray, List.set_cons_zero, List.set_cons_succ]
                      refine wpAnyH_take (i := 14) (v := ?_) rfl (by kernel_rfl) (by kernel_rfl) (by kernel_rfl) (fun _ _ _ h => h) (Or.inl ⟨by rfl, ?_⟩) (by assumption) ?_
                      rotate_left 1
                      · intro Y hY
                        go_simp
                        all_goals with_reducible rfl
                      dsimp only [Act.put]
                      try simp only [List.setIfInBounds_toArray, List.set_cons_zero, List.set_cons_succ]
                      refine wpAnyH_ready (rs := [15]) (by kernel_rfl) (by simp) ?_
                      refine AllReadyH.cons rfl (fun K hK => ?_) ?_
                      · go_simp
                        refine (unhide GO _ (by decide) _ _ _).mono ?_
                        rintro e z2 ⟨rfl, b2⟩
                        obtain ⟨i2, f2, k2, k2', n2, e2⟩ := good_arm (wr := wr) (z1 := z1) (by first | with_reducible exact Below.refl _ z1 | with_reducible exact ez1 z1 _ | with_reducible exact ez2 z1 _ _ | fail) b2 (unhide I1) (unhide F1) (unhide EZ)
                        have I2 := hide i2
                        have F2 := hide f2
                        have sz2 := e2.size
                        have KC := hide (And.intro (k2' _ _ (unhide KB).1) (unhide KB).2)
                        obtain ⟨⟨d0, d1, d2, d3, d4, d5⟩, fz⟩ := six_rules (unhide KC).1
                        clear EZ i2 f2 k2 k2' n2 b2
                        have EZ := hide e2
                        clear e2
                        go_wp2_with fail
                        refine hK.out _ _ ?_ (fun hHeld => ?_)
                        · first
                            | with_reducible exact unhide SX _ (unhide EZ)
                            | with_reducible refine (cell_six ?_).trans (unhide SX _ (unhide EZ)); (have := unhide A1W; omega)
                            | with_reducible exact unhide SX _ (below_far (unhide EZ) (ez1 _ _))
                            | with_reducible exact unhide SX _ (below_far (unhide EZ) (ez2 _ _ _))
                            | with_reducible exact unhide SX _ (below_far (unhide EZ) (ez1D _ _))
                            | with_reducible exact unhide SX _ (below_far (unhide EZ) (ez2D _ _ _))
                            | with_reducible exact unhide SX _ (ez1 _ _)
                            | with_reducible exact unhide SX _ (ez2 _ _ _)
                            | with_reducible exact unhide SX _ (ez1D _ _)
                            | with_reducible exact unhide SX _ (ez2D _ _ _)
                            | fail
                        clear hK K
                        try simp only [Act.put, List.setIfInBounds_toArray, List.set_cons_zero, List.set_cons_succ]
                        refine wpAnyH_ready (rs := [17]) (by kernel_rfl) (by simp) ?_
                        refine AllReadyH.cons rfl (fun K hK => ?_) ?_
                        · go_simp
                          refine hK.out _ _ ?_ (fun hHeld => ?_)
                          · first
                              | with_reducible exact unhide SX _ (unhide EZ)
                              | with_reducible refine (cell_six ?_).trans (unhide SX _ (unhide EZ)); (have := unhide A1W; omega)
                              | with_reducible exact unhide SX _ (below_far (unhide EZ) (ez1 _ _))
                              | with_reducible exact unhide SX _ (below_far (unhide EZ) (ez2 _ _ _))
                              | with_reducible exact unhide SX _ (below_far (unhide EZ) (ez1D _ _))
                              | with_reducible exact unhide SX _ (below_far (unhide EZ) (ez2D _ _ _))
                              | with_reducible exact unhide SX _ (ez1 _ _)
                              | with_reducible exact unhide SX _ (ez2 _ _ _)
                              | with_reducible exact unhide SX _ (ez1D _ _)
                              | with_reducible exact unhide SX _ (ez2D _ _ _)
                              | fail
                          clear hK K
                          try simp only [Act.put, List.setIfInBounds_toArray, List.set_cons_zero, List.set_cons_succ]
                          refine wpAnyH_done (by kernel_rfl) ?_ _
                          refine NoPanic.normal ?_
                          go_wp2_with fail
                          go_meet
                          exact ⟨_, mo, mc, rfl, by first | exact Nat.le_refl _ | omega | fail, mem_end (unhide KC).1 (unhide KC).2 (unhide I2) (unhide F2) (unhide EZ) (by first | exact Nat.le_refl _ | omega | fail) _ _ _⟩
                        exact AllReadyH.nil
                      exact AllReadyH.nil
                    exact AllReadyH.nil
                  exact AllReadyH.nil
                exact AllReadyH.nil
              exact AllReadyH.nil
            refine AllReadyH.cons rfl (fun K hK => ?_) ?_
            · go_simp
              refine (unhide WI _).mono ?_
              rintro e zz ⟨rfl, hw⟩
              replace hw := hw.symm
              subst hw
              go_wp2_with fail
              refine hK.out _ _ ?_ (fun hHeld => ?_)
              · first
                  | with_reducible exact unhide SX _ (unhide EZ)
                  | with_reducible refine (cell_six ?_).trans (unhide SX _ (unhide EZ)); (have := unhide A1W; omega)
                  | with_reducible exact unhide SX _ (below_far (unhide EZ) (ez1 _ _))
                  | with_reducible exact unhide SX _ (below_far (unhide EZ) (ez2 _ _ _))
                  | with_reducible exact unhide SX _ (below_far (unhide EZ) (ez1D _ _))
                  | with_reducible exact unhide SX _ (below_far (unhide EZ) (ez2D _ _ _))
                  | with_reducible exact unhide SX _ (ez1 _ _)
                  | with_reducible exact unhide SX _ (ez2 _ _ _)
                  | with_reducible exact unhide SX _ (ez1D _ _)
                  | with_reducible exact unhide SX _ (ez2D _ _ _)
                  | fail
              clear hK K
              try simp only [Act.put, List.setIfInBounds_toArray, List.set_cons_zero, List.set_cons_succ]
              refine wpAnyH_ready (rs := [0, 13, 16]) (by kernel_rfl) (by simp) ?_
              refine AllReadyH.cons rfl (fun K hK => ?_) ?_
              · go_simp
                refine hK.out _ _ ?_ (fun hHeld => ?_)
                · first
                    | with_reducible exact unhide SX _ (unhide EZ)
                    | with_reducible refine (cell_six ?_).trans (unhide SX _ (unhide EZ)); (have := unhide A1W; omega)
                    | with_reducible exact unhide SX _ (below_far (unhide EZ) (ez1 _ _))
                    | with_reducible exact unhide SX _ (below_far (unhide EZ) (ez2 _ _ _))
                    | with_reducible exact unhide SX _ (below_far (unhide EZ) (ez1D _ _))
                    | with_reducible exact unhide SX _ (below_far (unhide EZ) (ez2D _ _ _))
                    | with_reducible exact unhide SX _ (ez1 _ _)
                    | with_reducible exact unhide SX _ (ez2 _ _ _)
                    | with_reducible exact unhide SX _ (ez1D _ _)
                    | with_reducible exact unhide SX _ (ez2D _ _ _)
                    | fail
                clear hK K
                try simp only [Act.put, List.setIfInBounds_toArray, List.set_cons_zero, List.set_cons_succ]
                refine wpAnyH_take (i := 6) (v := ?_) rfl (by kernel_rfl) (by kernel_rfl) (by kernel_rfl) (fun _ _ _ h => h) (Or.inl ⟨by rfl, ?_⟩) (by assumption) ?_
                rotate_left 1
                · intro Y hY
                  go_simp
                  all_goals with_reducible rfl
                dsimp only [Act.put]
                try simp only [List.setIfInBounds_toArray, List.set_cons_zero, List.set_cons_succ]
                refine wpAnyH_ready (rs := [7, 13, 16]) (by kernel_rfl) (by simp) ?_
                refine AllReadyH.cons rfl (fun K hK => ?_) ?_
                · go_simp
                  refine hK.out _ _ ?_ (fun hHeld => ?_)
                  · first
                      | with_reducible exact unhide SX _ (unhide EZ)
                      | with_reducible refine (cell_six ?_).trans (unhide SX _ (unhide EZ)); (have := unhide A1W; omega)
                      | with_reducible exact unhide SX _ (below_far (unhide EZ) (ez1 _ _))
                      | with_reducible exact unhide SX _ (below_far (unhide EZ) (ez2 _ _ _))
                      | with_reducible exact unhide SX _ (below_far (unhide EZ) (ez1D _ _))
                      | with_reducible exact unhide SX _ (below_far (unhide EZ) (ez2D _ _ _))
                      | with_reducible exact unhide SX _ (ez1 _ _)
                      | with_reducible exact unhide SX _ (ez2 _ _ _)
                      | with_reducible exact unhide SX _ (ez1D _ _)
                      | with_reducible exact unhide SX _ (ez2D _ _ _)
                      | fail
                  clear hK K
                  try simp only [Act.put, List.setIfInBounds_toArray, List.set_cons_zero, List.set_cons_succ]
                  refine wpAnyH_ready (rs := [13, 16]) (by kernel_rfl) (by simp) ?_
                  refine AllReadyH.cons rfl (fun K hK => ?_) ?_
                  · go_simp
                    refine (unhide LI _).mono ?_
                    rintro e z1 ⟨mo, mc, rfl, i1, b1⟩
                    obtain ⟨F, i1, f1, k1, b1⟩ := lst_arm (wr := wr) (by first | with_reducible exact ez0D wr | with_reducible exact ez1D wr _ | with_reducible exact ez2D wr _ _ | fail) i1 b1
                    have I1 := hide i1
                    have F1 := hide f1
                    have sz1 := b1.size
                    skip
                    clear EZ i1 f1 k1
                    have EZ := hide b1
                    clear b1
                    go_wp2_with fail
                    refine hK.out _ _ ?_ (fun hHeld => ?_)
                    · first
                        | with_reducible exact unhide SX _ (unhide EZ)
                        | with_reducible refine (cell_six ?_).trans (unhide SX _ (unhide EZ)); (have := unhide A1W; omega)
                        | with_reducible exact unhide SX _ (below_far (unhide EZ) (ez1 _ _))
                        | with_reducible exact unhide SX _ (below_far (unhide EZ) (ez2 _ _ _))
                        | with_reducible exact unhide SX _ (below_far (unhide EZ) (ez1D _ _))
                        | with_reducible exact unhide SX _ (below_far (unhide EZ) (ez2D _ _ _))
                        | with_reducible exact unhide SX _ (ez1 _ _)
                        | with_reducible exact unhide SX _ (ez2 _ _ _)
                        | with_reducible exact unhide SX _ (ez1D _ _)
                        | with_reducible exact unhide SX _ (ez2D _ _ _)
                        | fail
                    clear hK K
                    try simp only [Act.put, List.setIfInBounds_toArray, List.set_cons_zero, List.set_cons_succ]
                    refine wpAnyH_take (i := 14) (v := ?_) rfl (by kernel_rfl) (by kernel_rfl) (by kernel_rfl) (fun _ _ _ h => h) (Or.inl ⟨by rfl, ?_⟩) (by assumption) ?_
                    rotate_left 1
                    · intro Y hY
                      go_simp
                      all_goals with_reducible rfl
                    dsimp only [Act.put]
                    try simp only [List.setIfInBounds_toArray, List.set_cons_zero, List.set_cons_succ]
                    refine wpAnyH_ready (rs := [15, 16]) (by kernel_rfl) (by simp) ?_
                    refine AllReadyH.cons rfl (fun K hK => ?_) ?_
                    · go_simp
                      refine (unhide GO _ (by decide) _ _ _).mono ?_
                      rintro e z2 ⟨rfl, b2⟩
                      obtain ⟨i2, f2, k2, k2', n2, e2⟩ := good_arm (wr := wr) (z1 := z1) (by first | with_reducible exact Below.refl _ z1 | with_reducible exact ez1 z1 _ | with_reducible exact ez2 z1 _ _ | fail) b2 (unhide I1) (unhide F1) (unhide EZ)
                      have I2 := hide i2
                      have F2 := hide f2
                      have sz2 := e2.size
                      skip
                      clear EZ i2 f2 k2 k2' n2 b2
                      have EZ := hide e2
                      clear e2
                      go_wp2_with fail
                      refine hK.out _ _ ?_ (fun hHeld => ?_)
                      · first
                          | with_reducible exact unhide SX _ (unhide EZ)
                          | with_reducible refine (cell_six ?_).trans (unhide SX _ (unhide EZ)); (have := unhide A1W; omega)
                          | with_reducible exact unhide SX _ (below_far (unhide EZ) (ez1 _ _))
                          | with_reducible exact unhide SX _ (below_far (unhide EZ) (ez2 _ _ _))
                          | with_reducible exact unhide SX _ (below_far (unhide EZ) (ez1D _ _))
                          | with_reducible exact unhide SX _ (below_far (unhide EZ) (ez2D _ _ _))
                          | with_reducible exact unhide SX _ (ez1 _ _)
                          | with_reducible exact unhide SX _ (ez2 _ _ _)
                          | with_reducible exact unhide SX _ (ez1D _ _)
                          | with_reducible exact unhide SX _ (ez2D _ _ _)
                          | fail
                      clear hK K
                      try simp only [Act.put, List.setIfInBounds_toArray, List.set_cons_zero, List.set_cons_succ]
                      refine wpAnyH_ready (rs := [16]) (by kernel_rfl) (by simp) ?_
                      refine AllReadyH.cons rfl (fun K hK => ?_) ?_
                      · go_simp
                        refine hK.out _ _ ?_ (fun hHeld => ?_)
                        · first
                            | with_reducible exact unhide SX _ (unhide EZ)
                            | with_reducible refine (cell_six ?_).trans (unhide SX _ (unhide EZ)); (have := unhide A1W; omega)
                            | with_reducible exact unhide SX _ (below_far (unhide EZ) (ez1 _ _))
                            | with_reducible exact unhide SX _ (below_far (unhide EZ) (ez2 _ _ _))
                            | with_reducible exact unhide SX _ (below_far (unhide EZ) (ez1D _ _))
                            | with_reducible exact unhide SX _ (below_far (unhide EZ) (ez2D _ _ _))
                            | with_reducible exact unhide SX _ (ez1 _ _)
                            | with_reducible exact unhide SX _ (ez2 _ _ _)
                            | with_reducible exact unhide SX _ (ez1D _ _)
                            | with_reducible exact unhide SX _ (ez2D _ _ _)
                            | fail
                        clear hK K
                        try simp only [Act.put, List.setIfInBounds_toArray, List.set_cons_zero, List.set_cons_succ]
                        refine wpAnyH_ready (rs := [17]) (by kernel_rfl) (by simp) ?_
                        refine AllReadyH.cons rfl (fun K hK => ?_) ?_
                        · go_simp
                          refine hK.out _ _ ?_ (fun hHeld => ?_)
                          · first
                              | with_reducible exact unhide SX _ (unhide EZ)
                              | with_reducible refine (cell_six ?_).trans (unhide SX _ (unhide EZ)); (have := unhide A1W; omega)
                              | with_reducible exact unhide SX _ (below_far (unhide EZ) (ez1 _ _))
                              | with_reducible exact unhide SX _ (below_far (unhide EZ) (ez2 _ _ _))
                              | with_reducible exact unhide SX _ (below_far (unhide EZ) (ez1D _ _))
                              | with_reducible exact unhide SX _ (below_far (unhide EZ) (ez2D _ _ _))
                              | with_reducible exact unhide SX _ (ez1 _ _)
                              | with_reducible exact unhide SX _ (ez2 _ _ _)
                              | with_reducible exact unhide SX _ (ez1D _ _)
                              | with_reducible exact unhide SX _ (ez2D _ _ _)
                              | fail
                          clear hK K
                          try simp only [Act.put, List.setIfInBounds_toArray, List.set_cons_zero, List.set_cons_succ]
                          refine wpAnyH_done (by kernel_rfl) ?_ _
                          refine NoPanic.normal ?_
                          go_wp2_with fail
                          go_meet
                          exact ⟨_, mo, mc, rfl, sz2, new_end (unhide I2) (unhide F2) (unhide EZ) _ _ _⟩
                        exact AllReadyH.nil
                      exact AllReadyH.nil
                    refine AllReadyH.cons rfl (fun K hK => ?_) ?_
                    · go_simp
                      refine hK.out _ _ ?_ (fun hHeld => ?_)
                      · first
                          | with_reducible exact unhide SX _ (unhide EZ)
                          | with_reducible refine (cell_six ?_).trans (unhide SX _ (unhide EZ)); (have := unhide A1W; omega)
                          | with_reducible exact unhide SX _ (below_far (unhide EZ) (ez1 _ _))
                          | with_reducible exact unhide SX _ (below_far (unhide EZ) (ez2 _ _ _))
                          | with_reducible exact unhide SX _ (below_far (unhide EZ) (ez1D _ _))
                          | with_reducible exact unhide SX _ (below_far (unhide EZ) (ez2D _ _ _))
                          | with_reducible exact unhide SX _ (ez1 _ _)
                          | with_reducible exact unhide SX _ (ez2 _ _ _)
                          | with_reducible exact unhide SX _ (ez1D _ _)
                          | with_reducible exact unhide SX _ (ez2D _ _ _)
                          | fail
                      clear hK K
                      try simp only [Act.put, List.setIfInBounds_toArray, List.set_cons_zero, List.set_cons_succ]
                      refine wpAnyH_ready (rs := [15]) (by kernel_rfl) (by simp) ?_
                      refine AllReadyH.cons rfl (fun K hK => ?_) ?_
                      · go_simp
                        refine (unhide GO _ (by decide) _ _ _).mono ?_
                        rintro e z2 ⟨rfl, b2⟩
                        obtain ⟨i2, f2, k2, k2', n2, e2⟩ := good_arm (wr := wr) (z1 := z1) (by first | with_reducible exact Below.refl _ z1 | with_reducible exact ez1 z1 _ | with_reducible exact ez2 z1 _ _ | fail) b2 (unhide I1) (unhide F1) (unhide EZ)
                        have I2 := hide i2
                        have F2 := hide f2
                        have sz2 := e2.size
                        have KC := hide (And.intro (k2 _ _ (box_at z1 boxZ)) (n2 _ (Nat.le_refl _)))
                        obtain ⟨⟨d0, d1, d2, d3, d4, d5⟩, fz⟩ := six_rules (unhide KC).1
                        clear EZ i2 f2 k2 k2' n2 b2
                        have EZ := hide e2
                        clear e2
                        go_wp2_with fail
                        refine hK.out _ _ ?_ (fun hHeld => ?_)
                        · first
                            | with_reducible exact unhide SX _ (unhide EZ)
                            | with_reducible refine (cell_six ?_).trans (unhide SX _ (unhide EZ)); (have := unhide A1W; omega)
                            | with_reducible exact unhide SX _ (below_far (unhide EZ) (ez1 _ _))
                            | with_reducible exact unhide SX _ (below_far (unhide EZ) (ez2 _ _ _))
                            | with_reducible exact unhide SX _ (below_far (unhide EZ) (ez1D _ _))
                            | with_reducible exact unhide SX _ (below_far (unhide EZ) (ez2D _ _ _))
                            | with_reducible exact unhide SX _ (ez1 _ _)
                            | with_reducible exact unhide SX _ (ez2 _ _ _)
                            | with_reducible exact unhide SX _ (ez1D _ _)
                            | with_reducible exact unhide SX _ (ez2D _ _ _)
                            | fail
                        clear hK K
                        try simp only [Act.put, List.setIfInBounds_toArray, List.set_cons_zero, List.set_cons_succ]
                        refine wpAnyH_ready (rs := [17]) (by kernel_rfl) (by simp) ?_
                        refine AllReadyH.cons rfl (fun K hK => ?_) ?_
                        · go_simp
                          refine hK.out _ _ ?_ (fun hHeld => ?_)
                          · first
                              | with_reducible exact unhide SX _ (unhide EZ)
                              | with_reducible refine (cell_six ?_).trans (unhide SX _ (unhide EZ)); (have := unhide A1W; omega)
                              | with_reducible exact unhide SX _ (below_far (unhide EZ) (ez1 _ _))
                              | with_reducible exact unhide SX _ (below_far (unhide EZ) (ez2 _ _ _))
                              | with_reducible exact unhide SX _ (below_far (unhide EZ) (ez1D _ _))
                              | with_reducible exact unhide SX _ (below_far (unhide EZ) (ez2D _ _ _))
                              | with_reducible exact unhide SX _ (ez1 _ _)
                              | with_reducible exact unhide SX _ (ez2 _ _ _)
                              | with_reducible exact unhide SX _ (ez1D _ _)
                              | with_reducible exact unhide SX _ (ez2D _ _ _)
                              | fail
                          clear hK K
                          try simp only [Act.put, List.setIfInBounds_toArray, List.set_cons_zero, List.set_cons_succ]
                          refine wpAnyH_done (by kernel_rfl) ?_ _
                          refine NoPanic.normal ?_
                          go_wp2_with fail
                          go_meet
                          exact ⟨_, mo, mc, rfl, by first | exact Nat.le_refl _ | omega | fail, mem_end (unhide KC).1 (unhide KC).2 (unhide I2) (unhide F2) (unhide EZ) (by first | exact Nat.le_refl _ | omega | fail) _ _ _⟩
                        exact AllReadyH.nil
                      exact AllReadyH.nil
                    exact AllReadyH.nil
                  refine AllReadyH.cons rfl (fun K hK => ?_) ?_
                  · go_simp
                    refine hK.out _ _ ?_ (fun hHeld => ?_)
                    · first
                        | with_reducible exact unhide SX _ (unhide EZ)
                        | with_reducible refine (cell_six ?_).trans (unhide SX _ (unhide EZ)); (have := unhide A1W; omega)
                        | with_reducible exact unhide SX _ (below_far (unhide EZ) (ez1 _ _))
                        | with_reducible exact unhide SX _ (below_far (unhide EZ) (ez2 _ _ _))
                        | with_reducible exact unhide SX _ (below_far (unhide EZ) (ez1D _ _))
                        | with_reducible exact unhide SX _ (below_far (unhide EZ) (ez2D _ _ _))
                        | with_reducible exact unhide SX _ (ez1 _ _)
                        | with_reducible exact unhide SX _ (ez2 _ _ _)
                        | with_reducible exact unhide SX _ (ez1D _ _)
                        | with_reducible exact unhide SX _ (ez2D _ _ _)
                        | fail
                    clear hK K
                    try simp only [Act.put, List.setIfInBounds_toArray, List.set_cons_zero, List.set_cons_succ]
                    refine wpAnyH_ready (rs := [13]) (by kernel_rfl) (by simp) ?_
                    refine AllReadyH.cons rfl (fun K hK => ?_) ?_
                    · go_simp
                      refine (unhide LI _).mono ?_
                      rintro e z1 ⟨mo, mc, rfl, i1, b1⟩
                      obtain ⟨F, i1, f1, k1, b1⟩ := lst_arm (wr := wr) (by first | with_reducible exact ez0D wr | with_reducible exact ez1D wr _ | with_reducible exact ez2D wr _ _ | fail) i1 b1
                      have I1 := hide i1
                      have F1 := hide f1
                      have sz1 := b1.size
                      have KB := hide (k1 _ _ (box2D wr rowK boxZ).2)
                      clear EZ i1 f1 k1
                      have EZ := hide b1
                      clear b1
                      go_wp2_with fail
                      refine hK.out _ _ ?_ (fun hHeld => ?_)
                      · first
                          | with_reducible exact unhide SX _ (unhide EZ)
                          | with_reducible refine (cell_six ?_).trans (unhide SX _ (unhide EZ)); (have := unhide A1W; omega)
                          | with_reducible exact unhide SX _ (below_far (unhide EZ) (ez1 _ _))
                          | with_reducible exact unhide SX _ (below_far (unhide EZ) (ez2 _ _ _))
                          | with_reducible exact unhide SX _ (below_far (unhide EZ) (ez1D _ _))
                          | with_reducible exact unhide SX _ (below_far (unhide EZ) (ez2D _ _ _))
                          | with_reducible exact unhide SX _ (ez1 _ _)
                          | with_reducible exact unhide SX _ (ez2 _ _ _)
                          | with_reducible exact unhide SX _ (ez1D _ _)
                          | with_reducible exact unhide SX _ (ez2D _ _ _)
                          | fail
                      clear hK K
                      try simp only [Act.put, List.setIfInBounds_toArray, List.set_cons_zero, List.set_cons_succ]
                      refine wpAnyH_take (i := 14) (v := ?_) rfl (by kernel_rfl) (by kernel_rfl) (by kernel_rfl) (fun _ _ _ h => h) (Or.inl ⟨by rfl, ?_⟩) (by assumption) ?_
                      rotate_left 1
                      · intro Y hY
                        go_simp
                        all_goals with_reducible rfl
                      dsimp only [Act.put]
                      try simp only [List.setIfInBounds_toArray, List.set_cons_zero, List.set_cons_succ]
                      refine wpAnyH_ready (rs := [15]) (by kernel_rfl) (by simp) ?_
                      refine AllReadyH.cons rfl (fun K hK => ?_) ?_
                      · go_simp
                        refine (unhide GO _ (by decide) _ _ _).mono ?_
                        rintro e z2 ⟨rfl, b2⟩
                        obtain ⟨i2, f2, k2, k2', n2, e2⟩ := good_arm (wr := wr) (z1 := z1) (by first | with_reducible exact Below.refl _ z1 | with_reducible exact ez1 z1 _ | with_reducible exact ez2 z1 _ _ | fail) b2 (unhide I1) (unhide F1) (unhide EZ)
                        have I2 := hide i2
                        have F2 := hide f2
                        have sz2 := e2.size
                        have KC := hide (And.intro (k2' _ _ (unhide KB).1) (unhide KB).2)
                        obtain ⟨⟨d0, d1, d2, d3, d4, d5⟩, fz⟩ := six_rules (unhide KC).1
                        clear EZ i2 f2 k2 k2' n2 b2
                        have EZ := hide e2
                        clear e2
                        go_wp2_with fail
                        refine hK.out _ _ ?_ (fun hHeld => ?_)
                        · first
                            | with_reducible exact unhide SX _ (unhide EZ)
                            | with_reducible refine (cell_six ?_).trans (unhide SX _ (unhide EZ)); (have := unhide A1W; omega)
                            | with_reducible exact unhide SX _ (below_far (unhide EZ) (ez1 _ _))
                            | with_reducible exact unhide SX _ (below_far (unhide EZ) (ez2 _ _ _))
                            | with_reducible exact unhide SX _ (below_far (unhide EZ) (ez1D _ _))
                            | with_reducible exact unhide SX _ (below_far (unhide EZ) (ez2D _ _ _))
                            | with_reducible exact unhide SX _ (ez1 _ _)
                            | with_reducible exact unhide SX _ (ez2 _ _ _)
                            | with_reducible exact unhide SX _ (ez1D _ _)
                            | with_reducible exact unhide SX _ (ez2D _ _ _)
                            | fail
                        clear hK K
                        try simp only [Act.put, List.setIfInBounds_toArray, List.set_cons_zero, List.set_cons_succ]
                        refine wpAnyH_ready (rs := [17]) (by kernel_rfl) (by simp) ?_
                        refine AllReadyH.cons rfl (fun K hK => ?_) ?_
                        · go_simp
                          refine hK.out _ _ ?_ (fun hHeld => ?_)
                          · first
                              | with_reducible exact unhide SX _ (unhide EZ)
                              | with_reducible refine (cell_six ?_).trans (unhide SX _ (unhide EZ)); (have := unhide A1W; omega)
                              | with_reducible exact unhide SX _ (below_far (unhide EZ) (ez1 _ _))
                              | with_reducible exact unhide SX _ (below_far (unhide EZ) (ez2 _ _ _))
                              | with_reducible exact unhide SX _ (below_far (unhide EZ) (ez1D _ _))
                              | with_reducible exact unhide SX _ (below_far (unhide EZ) (ez2D _ _ _))
                              | with_reducible exact unhide SX _ (ez1 _ _)
                              | with_reducible exact unhide SX _ (ez2 _ _ _)
                              | with_reducible exact unhide SX _ (ez1D _ _)
                              | with_reducible exact unhide SX _ (ez2D _ _ _)
                              | fail
                          clear hK K
                          try simp only [Act.put, List.setIfInBounds_toArray, List.set_cons_zero, List.set_cons_succ]
                          refine wpAnyH_done (by kernel_rfl) ?_ _
                          refine NoPanic.normal ?_
                          go_wp2_with fail
                          go_meet
                          exact ⟨_, mo, mc, rfl, by first | exact Nat.le_refl _ | omega | fail, mem_end (unhide KC).1 (unhide KC).2 (unhide I2) (unhide F2) (unhide EZ) (by first | exact Nat.le_refl _ | omega | fail) _ _ _⟩
                        exact AllReadyH.nil
                      exact AllReadyH.nil
                    exact AllReadyH.nil
                  exact AllReadyH.nil
                refine AllReadyH.cons rfl (fun K hK => ?_) ?_
                · go_simp
                  refine (unhide LI _).mono ?_
                  rintro e z1 ⟨mo, mc, rfl, i1, b1⟩
                  obtain ⟨F, i1, f1, k1, b1⟩ := lst_arm (wr := wr) (by first | with_reducible exact ez0D wr | with_reducible exact ez1D wr _ | with_reducible exact ez2D wr _ _ | fail) i1 b1
                  have I1 := hide i1
                  have F1 := hide f1
                  have sz1 := b1.size
                  have RR := (k1 _ _ (box1D wr rowK)).1
                  obtain ⟨r0, r1, r2⟩ := row_rules RR
                  have ra := fun o => (row_rules (Below.stay (ez1 z1 o) RR)).1
                  have rb := fun o => (row_rules (Below.stay (ez1 z1 o) RR)).2.1
                  have rc := fun o => (row_rules (Below.stay (ez1 z1 o) RR)).2.2
                  clear RR
                  clear EZ i1 f1 k1
                  have EZ := hide b1
                  clear b1
                  go_wp2_with fail
                  refine hK.out _ _ ?_ (fun hHeld => ?_)
                  · first
                      | with_reducible exact unhide SX _ (unhide EZ)
                      | with_reducible refine (cell_six ?_).trans (unhide SX _ (unhide EZ)); (have := unhide A1W; omega)
                      | with_reducible exact unhide SX _ (below_far (unhide EZ) (ez1 _ _))
                      | with_reducible exact unhide SX _ (below_far (unhide EZ) (ez2 _ _ _))
                      | with_reducible exact unhide SX _ (below_far (unhide EZ) (ez1D _ _))
                      | with_reducible exact unhide SX _ (below_far (unhide EZ) (ez2D _ _ _))
                      | with_reducible exact unhide SX _ (ez1 _ _)
                      | with_reducible exact unhide SX _ (ez2 _ _ _)
                      | with_reducible exact unhide SX _ (ez1D _ _)
                      | with_reducible exact unhide SX _ (ez2D _ _ _)
                      | fail
                  clear hK K
                  try simp only [Act.put, List.setIfInBounds_toArray, List.set_cons_zero, List.set_cons_succ]
                  refine wpAnyH_ready (rs := [7, 16]) (by kernel_rfl) (by simp) ?_
                  refine AllReadyH.cons rfl (fun K hK => ?_) ?_
                  · go_simp
                    refine hK.out _ _ ?_ (fun hHeld => ?_)
                    · first
                        | with_reducible exact unhide SX _ (unhide EZ)
                        | with_reducible refine (cell_six ?_).trans (unhide SX _ (unhide EZ)); (have := unhide A1W; omega)
                        | with_reducible exact unhide SX _ (below_far (unhide EZ) (ez1 _ _))
                        | with_reducible exact unhide SX _ (below_far (unhide EZ) (ez2 _ _ _))
                        | with_reducible exact unhide SX _ (below_far (unhide EZ) (ez1D _ _))
                        | with_reducible exact unhide SX _ (below_far (unhide EZ) (ez2D _ _ _))
                        | with_reducible exact unhide SX _ (ez1 _ _)
                        | with_reducible exact unhide SX _ (ez2 _ _ _)
                        | with_reducible exact unhide SX _ (ez1D _ _)
                        | with_reducible exact unhide SX _ (ez2D _ _ _)
                        | fail
                    clear hK K
                    try simp only [Act.put, List.setIfInBounds_toArray, List.set_cons_zero, List.set_cons_succ]
                    refine wpAnyH_take (i := 14) (v := ?_) rfl (by kernel_rfl) (by kernel_rfl) (by kernel_rfl) (fun _ _ _ h => h) (Or.inl ⟨by rfl, ?_⟩) (by assumption) ?_
                    rotate_left 1
                    · intro Y hY
                      go_simp
                      all_goals with_reducible rfl
                    dsimp only [Act.put]
                    try simp only [List.setIfInBounds_toArray, List.set_cons_zero, List.set_cons_succ]
                    refine wpAnyH_ready (rs := [15, 16]) (by kernel_rfl) (by simp) ?_
                    refine AllReadyH.cons rfl (fun K hK => ?_) ?_
                    · go_simp
                      refine (unhide GO _ (by decide) _ _ _).mono ?_
                      rintro e z2 ⟨rfl, b2⟩
                      obtain ⟨i2, f2, k2, k2', n2, e2⟩ := good_arm (wr := wr) (z1 := z1) (by first | with_reducible exact Below.refl _ z1 | with_reducible exact ez1 z1 _ | with_reducible exact ez2 z1 _ _ | fail) b2 (unhide I1) (unhide F1) (unhide EZ)
                      have I2 := hide i2
                      have F2 := hide f2
                      have sz2 := e2.size
                      skip
                      clear EZ i2 f2 k2 k2' n2 b2
                      have EZ := hide e2
                      clear e2
                      go_wp2_with fail
                      refine hK.out _ _ ?_ (fun hHeld => ?_)
                      · first
                          | with_reducible exact unhide SX _ (unhide EZ)
                          | with_reducible refine (cell_six ?_).trans (unhide SX _ (unhide EZ)); (have := unhide A1W; omega)
                          | with_reducible exact unhide SX _ (below_far (unhide EZ) (ez1 _ _))
                          | with_reducible exact unhide SX _ (below_far (unhide EZ) (ez2 _ _ _))
                          | with_reducible exact unhide SX _ (below_far (unhide EZ) (ez1D _ _))
                          | with_reducible exact unhide SX _ (below_far (unhide EZ) (ez2D _ _ _))
                          | with_reducible exact unhide SX _ (ez1 _ _)
                          | with_reducible exact unhide SX _ (ez2 _ _ _)
                          | with_reducible exact unhide SX _ (ez1D _ _)
                          | with_reducible exact unhide SX _ (ez2D _ _ _)
                          | fail
                      clear hK K
                      try simp only [Act.put, List.setIfInBounds_toArray, List.set_cons_zero, List.set_cons_succ]
                      refine wpAnyH_ready (rs := [16]) (by kernel_rfl) (by simp) ?_
                      refine AllReadyH.cons rfl (fun K hK => ?_) ?_
                      · go_simp
                        refine hK.out _ _ ?_ (fun hHeld => ?_)
                        · first
                            | with_reducible exact unhide SX _ (unhide EZ)
                            | with_reducible refine (cell_six ?_).trans (unhide SX _ (unhide EZ)); (have := unhide A1W; omega)
                            | with_reducible exact unhide SX _ (below_far (unhide EZ) (ez1 _ _))
                            | with_reducible exact unhide SX _ (below_far (unhide EZ) (ez2 _ _ _))
                            | with_reducible exact unhide SX _ (below_far (unhide EZ) (ez1D _ _))
                            | with_reducible exact unhide SX _ (below_far (unhide EZ) (ez2D _ _ _))
                            | with_reducible exact unhide SX _ (ez1 _ _)
                            | with_reducible exact unhide SX _ (ez2 _ _ _)
                            | with_reducible exact unhide SX _ (ez1D _ _)
                            | with_reducible exact unhide SX _ (ez2D _ _ _)
                            | fail
                        clear hK K
                        try simp only [Act.put, List.setIfInBounds_toArray, List.set_cons_zero, List.set_cons_succ]
                        refine wpAnyH_ready (rs := [17]) (by kernel_rfl) (by simp) ?_
                        refine AllReadyH.cons rfl (fun K hK => ?_) ?_
                        · go_simp
                          refine hK.out _ _ ?_ (fun hHeld => ?_)
                          · first
                              | with_reducible exact unhide SX _ (unhide EZ)
                              | with_reducible refine (cell_six ?_).trans (unhide SX _ (unhide EZ)); (have := unhide A1W; omega)
                              | with_reducible exact unhide SX _ (below_far (unhide EZ) (ez1 _ _))
                              | with_reducible exact unhide SX _ (below_far (unhide EZ) (ez2 _ _ _))
                              | with_reducible exact unhide SX _ (below_far (unhide EZ) (ez1D _ _))
                              | with_reducible exact unhide SX _ (below_far (unhide EZ) (ez2D _ _ _))
                              | with_reducible exact unhide SX _ (ez1 _ _)
                              | with_reducible exact unhide SX _ (ez2 _ _ _)
                              | with_reducible exact unhide SX _ (ez1D _ _)
                              | with_reducible exact unhide SX _ (ez2D _ _ _)
                              | fail
                          clear hK K
                          try simp only [Act.put, List.setIfInBounds_toArray, List.set_cons_zero, List.set_cons_succ]
                          refine wpAnyH_done (by kernel_rfl) ?_ _
                          refine NoPanic.normal ?_
                          go_wp2_with fail
                          go_meet
                          exact ⟨_, mo, mc, rfl, sz2, new_end (unhide I2) (unhide F2) (unhide EZ) _ _ _⟩
                        exact AllReadyH.nil
                      exact AllReadyH.nil
                    refine AllReadyH.cons rfl (fun K hK => ?_) ?_
                    · go_simp
                      refine hK.out _ _ ?_ (fun hHeld => ?_)
                      · first
                          | with_reducible exact unhide SX _ (unhide EZ)
                          | with_reducible refine (cell_six ?_).trans (unhide SX _ (unhide EZ)); (have := unhide A1W; omega)
                          | with_reducible exact unhide SX _ (below_far (unhide EZ) (ez1 _ _))
                          | with_reducible exact unhide SX _ (below_far (unhide EZ) (ez2 _ _ _))
                          | with_reducible exact unhide SX _ (below_far (unhide EZ) (ez1D _ _))
                          | with_reducible exact unhide SX _ (below_far (unhide EZ) (ez2D _ _ _))
                          | with_reducible exact unhide SX _ (ez1 _ _)
                          | with_reducible exact unhide SX _ (ez2 _ _ _)
                          | with_reducible exact unhide SX _ (ez1D _ _)
                          | with_reducible exact unhide SX _ (ez2D _ _ _)
                          | fail
                      clear hK K
                      try simp only [Act.put, List.setIfInBounds_toArray, List.set_cons_zero, List.set_cons_succ]
                      refine wpAnyH_ready (rs := [15]) (by kernel_rfl) (by simp) ?_
                      refine AllReadyH.cons rfl (fun K hK => ?_) ?_
                      · go_simp
                        refine (unhide GO _ (by decide) _ _ _).mono ?_
                        rintro e z2 ⟨rfl, b2⟩
                        obtain ⟨i2, f2, k2, k2', n2, e2⟩ := good_arm (wr := wr) (z1 := z1) (by first | with_reducible exact Below.refl _ z1 | with_reducible exact ez1 z1 _ | with_reducible exact ez2 z1 _ _ | fail) b2 (unhide I1) (unhide F1) (unhide EZ)
                        have I2 := hide i2
                        have F2 := hide f2
                        have sz2 := e2.size
                        have KC := hide (And.intro (k2 _ _ (box_at z1 boxZ)) (n2 _ (Nat.le_refl _)))
                        obtain ⟨⟨d0, d1, d2, d3, d4, d5⟩, fz⟩ := six_rules (unhide KC).1
                        clear EZ i2 f2 k2 k2' n2 b2
                        have EZ := hide e2
                        clear e2
                        go_wp2_with fail
                        refine hK.out _ _ ?_ (fun hHeld => ?_)
                        · first
                            | with_reducible exact unhide SX _ (unhide EZ)
                            | with_reducible refine (cell_six ?_).trans (unhide SX _ (unhide EZ)); (have := unhide A1W; omega)
                            | with_reducible exact unhide SX _ (below_far (unhide EZ) (ez1 _ _))
                            | with_reducible exact unhide SX _ (below_far (unhide EZ) (ez2 _ _ _))
                            | with_reducible exact unhide SX _ (below_far (unhide EZ) (ez1D _ _))
                            | with_reducible exact unhide SX _ (below_far (unhide EZ) (ez2D _ _ _))
                            | with_reducible exact unhide SX _ (ez1 _ _)
                            | with_reducible exact unhide SX _ (ez2 _ _ _)
                            | with_reducible exact unhide SX _ (ez1D _ _)
                            | with_reducible exact unhide SX _ (ez2D _ _ _)
                            | fail
                        clear hK K
                        try simp only [Act.put, List.setIfInBounds_toArray, List.set_cons_zero, List.set_cons_succ]
                        refine wpAnyH_ready (rs := [17]) (by kernel_rfl) (by simp) ?_
                        refine AllReadyH.cons rfl (fun K hK => ?_) ?_
                        · go_simp
                          refine hK.out _ _ ?_ (fun hHeld => ?_)
                          · first
                              | with_reducible exact unhide SX _ (unhide EZ)
                              | with_reducible refine (cell_six ?_).trans (unhide SX _ (unhide EZ)); (have := unhide A1W; omega)
                              | with_reducible exact unhide SX _ (below_far (unhide EZ) (ez1 _ _))
                              | with_reducible exact unhide SX _ (below_far (unhide EZ) (ez2 _ _ _))
                              | with_reducible exact unhide SX _ (below_far (unhide EZ) (ez1D _ _))
                              | with_reducible exact unhide SX _ (below_far (unhide EZ) (ez2D _ _ _))
                              | with_reducible exact unhide SX _ (ez1 _ _)
                              | with_reducible exact unhide SX _ (ez2 _ _ _)
                              | with_reducible exact unhide SX _ (ez1D _ _)
                              | with_reducible exact unhide SX _ (ez2D _ _ _)
                              | fail
                          clear hK K
                          try simp only [Act.put, List.setIfInBounds_toArray, List.set_cons_zero, List.set_cons_succ]
                          refine wpAnyH_done (by kernel_rfl) ?_ _
                          refine NoPanic.normal ?_
                          go_wp2_with fail
                          go_meet
                          exact ⟨_, mo, mc, rfl, by first | exact Nat.le_refl _ | omega | fail, mem_end (unhide KC).1 (unhide KC).2 (unhide I2) (unhide F2) (unhide EZ) (by first | exact Nat.le_refl _ | omega | fail) _ _ _⟩
                        exact AllReadyH.nil
                      exact AllReadyH.nil
                    exact AllReadyH.nil
                  refine AllReadyH.cons rfl (fun K hK => ?_) ?_
                  · go_simp
                    refine hK.out _ _ ?_ (fun hHeld => ?_)
                    · first
                        | with_reducible exact unhide SX _ (unhide EZ)
                        | with_reducible refine (cell_six ?_).trans (unhide SX _ (unhide EZ)); (have := unhide A1W; omega)
                        | with_reducible exact unhide SX _ (below_far (unhide EZ) (ez1 _ _))
                        | with_reducible exact unhide SX _ (below_far (unhide EZ) (ez2 _ _ _))
                        | with_reducible exact unhide SX _ (below_far (unhide EZ) (ez1D _ _))
                        | with_reducible exact unhide SX _ (below_far (unhide EZ) (ez2D _ _ _))
                        | with_reducible exact unhide SX _ (ez1 _ _)
                        | with_reducible exact unhide SX _ (ez2 _ _ _)
                        | with_reducible exact unhide SX _ (ez1D _ _)
                        | with_reducible exact unhide SX _ (ez2D _ _ _)
                        | fail
                    clear hK K
                    try simp only [Act.put, List.setIfInBounds_toArray, List.set_cons_zero, List.set_cons_succ]
                    refine wpAnyH_ready (rs := [7]) (by kernel_rfl) (by simp) ?_
                    refine AllReadyH.cons rfl (fun K hK => ?_) ?_
                    · go_simp
                      refine hK.out _ _ ?_ (fun hHeld => ?_)
                      · first
                          | with_reducible exact unhide SX _ (unhide EZ)
                          | with_reducible refine (cell_six ?_).trans (unhide SX _ (unhide EZ)); (have := unhide A1W; omega)
                          | with_reducible exact unhide SX _ (below_far (unhide EZ) (ez1 _ _))
                          | with_reducible exact unhide SX _ (below_far (unhide EZ) (ez2 _ _ _))
                          | with_reducible exact unhide SX _ (below_far (unhide EZ) (ez1D _ _))
                          | with_reducible exact unhide SX _ (below_far (unhide EZ) (ez2D _ _ _))
                          | with_reducible exact unhide SX _ (ez1 _ _)
                          | with_reducible exact unhide SX _ (ez2 _ _ _)
                          | with_reducible exact unhide SX _ (ez1D _ _)
                          | with_reducible exact unhide SX _ (ez2D _ _ _)
                          | fail
                      clear hK K
                      try simp only [Act.put, List.setIfInBounds_toArray, List.set_cons_zero, List.set_cons_succ]
                      refine wpAnyH_take (i := 14) (v := ?_) rfl (by kernel_rfl) (by kernel_rfl) (by kernel_rfl) (fun _ _ _ h => h) (Or.inl ⟨by rfl, ?_⟩) (by assumption) ?_
                      rotate_left 1
                      · intro Y hY
                        go_simp
                        all_goals with_reducible rfl
                      dsimp only [Act.put]
                      try simp only [List.setIfInBounds_toArray, List.set_cons_zero, List.set_cons_succ]
                      refine wpAnyH_ready (rs := [15]) (by kernel_rfl) (by simp) ?_
                      refine AllReadyH.cons rfl (fun K hK => ?_) ?_
                      · go_simp
                        refine (unhide GO _ (by decide) _ _ _).mono ?_
                        rintro e z2 ⟨rfl, b2⟩
                        obtain ⟨i2, f2, k2, k2', n2, e2⟩ := good_arm (wr := wr) (z1 := z1) (by first | with_reducible exact Below.refl _ z1 | with_reducible exact ez1 z1 _ | with_reducible exact ez2 z1 _ _ | fail) b2 (unhide I1) (unhide F1) (unhide EZ)
                        have I2 := hide i2
                        have F2 := hide f2
                        have sz2 := e2.size
                        have KC := hide (And.intro (k2 _ _ (box_at z1 boxZ)) (n2 _ (Nat.le_refl _)))
                        obtain ⟨⟨d0, d1, d2, d3, d4, d5⟩, fz⟩ := six_rules (unhide KC).1
                        clear EZ i2 f2 k2 k2' n2 b2
                        have EZ := hide e2
                        clear e2
                        go_wp2_with fail
                        refine hK.out _ _ ?_ (fun hHeld => ?_)
                        · first
                            | with_reducible exact unhide SX _ (unhide EZ)
                            | with_reducible refine (cell_six ?_).trans (unhide SX _ (unhide EZ)); (have := unhide A1W; omega)
                            | with_reducible exact unhide SX _ (below_far (unhide EZ) (ez1 _ _))
                            | with_reducible exact unhide SX _ (below_far (unhide EZ) (ez2 _ _ _))
                            | with_reducible exact unhide SX _ (below_far (unhide EZ) (ez1D _ _))
                            | with_reducible exact unhide SX _ (below_far (unhide EZ) (ez2D _ _ _))
                            | with_reducible exact unhide SX _ (ez1 _ _)
                            | with_reducible exact unhide SX _ (ez2 _ _ _)
                            | with_reducible exact unhide SX _ (ez1D _ _)
                            | with_reducible exact unhide SX _ (ez2D _ _ _)
                            | fail
                        clear hK K
                        try simp only [Act.put, List.setIfInBounds_toArray, List.set_cons_zero, List.set_cons_succ]
                        refine wpAnyH_ready (rs := [17]) (by kernel_rfl) (by simp) ?_
                        refine AllReadyH.cons rfl (fun K hK => ?_) ?_
                        · go_simp
                          refine hK.out _ _ ?_ (fun hHeld => ?_)
                          · first
                              | with_reducible exact unhide SX _ (unhide EZ)
                              | with_reducible refine (cell_six ?_).trans (unhide SX _ (unhide EZ)); (have := unhide A1W; omega)
                              | with_reducible exact unhide SX _ (below_far (unhide EZ) (ez1 _ _))
                              | with_reducible exact unhide SX _ (below_far (unhide EZ) (ez2 _ _ _))
                              | with_reducible exact unhide SX _ (below_far (unhide EZ) (ez1D _ _))
                              | with_reducible exact unhide SX _ (below_far (unhide EZ) (ez2D _ _ _))
                              | with_reducible exact unhide SX _ (ez1 _ _)
                              | with_reducible exact unhide SX _ (ez2 _ _ _)
                              | with_reducible exact unhide SX _ (ez1D _ _)
                              | with_reducible exact unhide SX _ (ez2D _ _ _)
                              | fail
                          clear hK K
                          try simp only [Act.put, List.setIfInBounds_toArray, List.set_cons_zero, List.set_cons_succ]
                          refine wpAnyH_done (by kernel_rfl) ?_ _
                          refine NoPanic.normal ?_
                          go_wp2_with fail
                          go_meet
                          exact ⟨_, mo, mc, rfl, by first | exact Nat.le_refl _ | omega | fail, mem_end (unhide KC).1 (unhide KC).2 (unhide I2) (unhide F2) (unhide EZ) (by first | exact Nat.le_refl _ | omega | fail) _ _ _⟩
                        exact AllReadyH.nil
                      exact AllReadyH.nil
                    exact AllReadyH.nil
                  exact AllReadyH.nil
                refine AllReadyH.cons rfl (fun K hK => ?_) ?_
                · go_simp
                  refine hK.out _ _ ?_ (fun hHeld => ?_)
                  · first
                      | with_reducible exact unhide SX _ (unhide EZ)
                      | with_reducible refine (cell_six ?_).trans (unhide SX _ (unhide EZ)); (have := unhide A1W; omega)
                      | with_reducible exact unhide SX _ (below_far (unhide EZ) (ez1 _ _))
                      | with_reducible exact unhide SX _ (below_far (unhide EZ) (ez2 _ _ _))
                      | with_reducible exact unhide SX _ (below_far (unhide EZ) (ez1D _ _))
                      | with_reducible exact unhide SX _ (below_far (unhide EZ) (ez2D _ _ _))
                      | with_reducible exact unhide SX _ (ez1 _ _)
                      | with_reducible exact unhide SX _ (ez2 _ _ _)
                      | with_reducible exact unhide SX _ (ez1D _ _)
                      | with_reducible exact unhide SX _ (ez2D _ _ _)
                      | fail
                  clear hK K
                  try simp only [Act.put, List.setIfInBounds_toArray, List.set_cons_zero, List.set_cons_succ]
                  refine wpAnyH_ready (rs := [7, 13]) (by kernel_rfl) (by simp) ?_
                  refine AllReadyH.cons rfl (fun K hK => ?_) ?_
                  · go_simp
                    refine hK.out _ _ ?_ (fun hHeld => ?_)
                    · first
                        | with_reducible exact unhide SX _ (unhide EZ)
                        | with_reducible refine (cell_six ?_).trans (unhide SX _ (unhide EZ)); (have := unhide A1W; omega)
                        | with_reducible exact unhide SX _ (below_far (unhide EZ) (ez1 _ _))
                        | with_reducible exact unhide SX _ (below_far (unhide EZ) (ez2 _ _ _))
                        | with_reducible exact unhide SX _ (below_far (unhide EZ) (ez1D _ _))
                        | with_reducible exact unhide SX _ (below_far (unhide EZ) (ez2D _ _ _))
                        | with_reducible exact unhide SX _ (ez1 _ _)
                        | with_reducible exact unhide SX _ (ez2 _ _ _)
                        | with_reducible exact unhide SX _ (ez1D _ _)
                        | with_reducible exact unhide SX _ (ez2D _ _ _)
                        | fail
                    clear hK K
                    try simp only [Act.put, List.setIfInBounds_toArray, List.set_cons_zero, List.set_cons_succ]
                    refine wpAnyH_ready (rs := [13]) (by kernel_rfl) (by simp) ?_
                    refine AllReadyH.cons rfl (fun K hK => ?_) ?_
                    · go_simp
                      refine (unhide LI _).mono ?_
                      rintro e z1 ⟨mo, mc, rfl, i1, b1⟩
                      obtain ⟨F, i1, f1, k1, b1⟩ := lst_arm (wr := wr) (by first | with_reducible exact ez0D wr | with_reducible exact ez1D wr _ | with_reducible exact ez2D wr _ _ | fail) i1 b1
                      have I1 := hide i1
                      have F1 := hide f1
                      have sz1 := b1.size
                      have KB := hide (k1 _ _ (box2D wr rowK boxZ).2)
                      clear EZ i1 f1 k1
                      have EZ := hide b1
                      clear b1
                      go_wp2_with fail
                      refine hK.out _ _ ?_ (fun hHeld => ?_)
                      · first
                          | with_reducible exact unhide SX _ (unhide EZ)
                          | with_reducible refine (cell_six ?_).trans (unhide SX _ (unhide EZ)); (have := unhide A1W; omega)
                          | with_reducible exact unhide SX _ (below_far (unhide EZ) (ez1 _ _))
                          | with_reducible exact unhide SX _ (below_far (unhide EZ) (ez2 _ _ _))
                          | with_reducible exact unhide SX _ (below_far (unhide EZ) (ez1D _ _))
                          | with_reducible exact unhide SX _ (below_far (unhide EZ) (ez2D _ _ _))
                          | with_reducible exact unhide SX _ (ez1 _ _)
                          | with_reducible exact unhide SX _ (ez2 _ _ _)
                          | with_reducible exact unhide SX _ (ez1D _ _)
                          | with_reducible exact unhide SX _ (ez2D _ _ _)
                          | fail
                      clear hK K
                      try simp only [Act.put, List.setIfInBounds_toArray, List.set_cons_zero, List.set_cons_succ]
                      refine wpAnyH_take (i := 14) (v := ?_) rfl (by kernel_rfl) (by kernel_rfl) (by kernel_rfl) (fun _ _ _ h => h) (Or.inl ⟨by rfl, ?_⟩) (by assumption) ?_
                      rotate_left 1
                      · intro Y hY
                        go_simp
                        all_goals with_reducible rfl
                      dsimp only [Act.put]
                      try simp only [List.setIfInBounds_toArray, List.set_cons_zero, List.set_cons_succ]
                      refine wpAnyH_ready (rs := [15]) (by kernel_rfl) (by simp) ?_
                      refine AllReadyH.cons rfl (fun K hK => ?_) ?_
                      · go_simp
                        refine (unhide GO _ (by decide) _ _ _).mono ?_
                        rintro e z2 ⟨rfl, b2⟩
                        obtain ⟨i2, f2, k2, k2', n2, e2⟩ := good_arm (wr := wr) (z1 := z1) (by first | with_reducible exact Below.refl _ z1 | with_reducible exact ez1 z1 _ | with_reducible exact ez2 z1 _ _ | fail) b2 (unhide I1) (unhide F1) (unhide EZ)
                        have I2 := hide i2
                        have F2 := hide f2
                        have sz2 := e2.size
                        have KC := hide (And.intro (k2' _ _ (unhide KB).1) (unhide KB).2)
                        obtain ⟨⟨d0, d1, d2, d3, d4, d5⟩, fz⟩ := six_rules (unhide KC).1
                        clear EZ i2 f2 k2 k2' n2 b2
                        have EZ := hide e2
                        clear e2
                        go_wp2_with fail
                        refine hK.out _ _ ?_ (fun hHeld => ?_)
                        · first
                            | with_reducible exact unhide SX _ (unhide EZ)
                            | with_reducible refine (cell_six ?_).trans (unhide SX _ (unhide EZ)); (have := unhide A1W; omega)
                            | with_reducible exact unhide SX _ (below_far (unhide EZ) (ez1 _ _))
                            | with_reducible exact unhide SX _ (below_far (unhide EZ) (ez2 _ _ _))
                            | with_reducible exact unhide SX _ (below_far (unhide EZ) (ez1D _ _))
                            | with_reducible exact unhide SX _ (below_far (unhide EZ) (ez2D _ _ _))
                            | with_reducible exact unhide SX _ (ez1 _ _)
                            | with_reducible exact unhide SX _ (ez2 _ _ _)
                            | with_reducible exact unhide SX _ (ez1D _ _)
                            | with_reducible exact unhide SX _ (ez2D _ _ _)
                            | fail
                        clear hK K
                        try simp only [Act.put, List.setIfInBounds_toArray, List.set_cons_zero, List.set_cons_succ]
                        refine wpAnyH_ready (rs := [17]) (by kernel_rfl) (by simp) ?_
                        refine AllReadyH.cons rfl (fun K hK => ?_) ?_
                        · go_simp
                          refine hK.out _ _ ?_ (fun hHeld => ?_)
                          · first
                              | with_reducible exact unhide SX _ (unhide EZ)
                              | with_reducible refine (cell_six ?_).trans (unhide SX _ (unhide EZ)); (have := unhide A1W; omega)
                              | with_reducible exact unhide SX _ (below_far (unhide EZ) (ez1 _ _))
                              | with_reducible exact unhide SX _ (below_far (unhide EZ) (ez2 _ _ _))
                              | with_reducible exact unhide SX _ (below_far (unhide EZ) (ez1D _ _))
                              | with_reducible exact unhide SX _ (below_far (unhide EZ) (ez2D _ _ _))
                              | with_reducible exact unhide SX _ (ez1 _ _)
                              | with_reducible exact unhide SX _ (ez2 _ _ _)
                              | with_reducible exact unhide SX _ (ez1D _ _)
                              | with_reducible exact unhide SX _ (ez2D _ _ _)
                              | fail
                          clear hK K
                          try simp only [Act.put, List.setIfInBounds_toArray, List.set_cons_zero, List.set_cons_succ]
                          refine wpAnyH_done (by kernel_rfl) ?_ _
                          refine NoPanic.normal ?_
                          go_wp2_with fail
                          go_meet
                          exact ⟨_, mo, mc, rfl, by first | exact Nat.le_refl _ | omega | fail, mem_end (unhide KC).1 (unhide KC).2 (unhide I2) (unhide F2) (unhide EZ) (by first | exact Nat.le_refl _ | omega | fail) _ _ _⟩
                        exact AllReadyH.nil
                      exact AllReadyH.nil
                    exact AllReadyH.nil
                  refine AllReadyH.cons rfl (fun K hK => ?_) ?_
                  · go_simp
                    refine (unhide LI _).mono ?_
                    rintro e z1 ⟨mo, mc, rfl, i1, b1⟩
                    obtain ⟨F, i1, f1, k1, b1⟩ := lst_arm (wr := wr) (by first | with_reducible exact ez0D wr | with_reducible exact ez1D wr _ | with_reducible exact ez2D wr _ _ | fail) i1 b1
                    have I1 := hide i1
                    have F1 := hide f1
                    have sz1 := b1.size
                    have KB := hide (k1 _ _ (box2D wr rowK boxZ).2)
                    have RR := (k1 _ _ (box2D wr rowK boxZ).1).1
                    obtain ⟨r0, r1, r2⟩ := row_rules RR
                    have ra := fun o => (row_rules (Below.stay (ez1 z1 o) RR)).1
                    have rb := fun o => (row_rules (Below.stay (ez1 z1 o) RR)).2.1
                    have rc := fun o => (row_rules (Below.stay (ez1 z1 o) RR)).2.2
                    clear RR
                    clear EZ i1 f1 k1
                    have EZ := hide b1
                    clear b1
                    go_wp2_with fail
                    refine hK.out _ _ ?_ (fun hHeld => ?_)
                    · first
                        | with_reducible exact unhide SX _ (unhide EZ)
                        | with_reducible refine (cell_six ?_).trans (unhide SX _ (unhide EZ)); (have := unhide A1W; omega)
                        | with_reducible exact unhide SX _ (below_far (unhide EZ) (ez1 _ _))
                        | with_reducible exact unhide SX _ (below_far (unhide EZ) (ez2 _ _ _))
                        | with_reducible exact unhide SX _ (below_far (unhide EZ) (ez1D _ _))
                        | with_reducible exact unhide SX _ (below_far (unhide EZ) (ez2D _ _ _))
                        | with_reducible exact unhide SX _ (ez1 _ _)
                        | with_reducible exact unhide SX _ (ez2 _ _ _)
                        | with_reducible exact unhide SX _ (ez1D _ _)
                        | with_reducible exact unhide SX _ (ez2D _ _ _)
                        | fail
                    clear hK K
                    try simp only [Act.put, List.setIfInBounds_toArray, List.set_cons_zero, List.set_cons_succ]
                    refine wpAnyH_ready (rs := [7]) (by kernel_rfl) (by simp) ?_
                    refine AllReadyH.cons rfl (fun K hK => ?_) ?_
                    · go_simp
                      refine hK.out _ _ ?_ (fun hHeld => ?_)
                      · first
                          | with_reducible exact unhide SX _ (unhide EZ)
                          | with_reducible refine (cell_six ?_).trans (unhide SX _ (unhide EZ)); (have := unhide A1W; omega)
                          | with_reducible exact unhide SX _ (below_far (unhide EZ) (ez1 _ _))
                          | with_reducible exact unhide SX _ (below_far (unhide EZ) (ez2 _ _ _))
                          | with_reducible exact unhide SX _ (below_far (unhide EZ) (ez1D _ _))
                          | with_reducible exact unhide SX _ (below_far (unhide EZ) (ez2D _ _ _))
                          | with_reducible exact unhide SX _ (ez1 _ _)
                          | with_reducible exact unhide SX _ (ez2 _ _ _)
                          | with_reducible exact unhide SX _ (ez1D _ _)
                          | with_reducible exact unhide SX _ (ez2D _ _ _)
                          | fail
                      clear hK K
                      try simp only [Act.put, List.setIfInBounds_toArray, List.set_cons_zero, List.set_cons_succ]
                      refine wpAnyH_take (i := 14) (v := ?_) rfl (by kernel_rfl) (by kernel_rfl) (by kernel_rfl) (fun _ _ _ h => h) (Or.inl ⟨by rfl, ?_⟩) (by assumption) ?_
                      rotate_left 1
                      · intro Y hY
                        go_simp
                        all_goals with_reducible rfl
                      dsimp only [Act.put]
                      try simp only [List.setIfInBounds_toArray, List.set_cons_zero, List.set_cons_succ]
                      refine wpAnyH_ready (rs := [15]) (by kernel_rfl) (by simp) ?_
                      refine AllReadyH.cons rfl (fun K hK => ?_) ?_
                      · go_simp
                        refine (unhide GO _ (by decide) _ _ _).mono ?_
                        rintro e z2 ⟨rfl, b2⟩
                        obtain ⟨i2, f2, k2, k2', n2, e2⟩ := good_arm (wr := wr) (z1 := z1) (by first | with_reducible exact Below.refl _ z1 | with_reducible exact ez1 z1 _ | with_reducible exact ez2 z1 _ _ | fail) b2 (unhide I1) (unhide F1) (unhide EZ)
                        have I2 := hide i2
                        have F2 := hide f2
                        have sz2 := e2.size
                        have KC := hide (And.intro (k2' _ _ (unhide KB).1) (unhide KB).2)
                        obtain ⟨⟨d0, d1, d2, d3, d4, d5⟩, fz⟩ := six_rules (unhide KC).1
                        clear EZ i2 f2 k2 k2' n2 b2
                        have EZ := hide e2
                        clear e2
                        go_wp2_with fail
                        refine hK.out _ _ ?_ (fun hHeld => ?_)
                        · first
                            | with_reducible exact unhide SX _ (unhide EZ)
                            | with_reducible refine (cell_six ?_).trans (unhide SX _ (unhide EZ)); (have := unhide A1W; omega)
                            | with_reducible exact unhide SX _ (below_far (unhide EZ) (ez1 _ _))
                            | with_reducible exact unhide SX _ (below_far (unhide EZ) (ez2 _ _ _))
                            | with_reducible exact unhide SX _ (below_far (unhide EZ) (ez1D _ _))
                            | with_reducible exact unhide SX _ (below_far (unhide EZ) (ez2D _ _ _))
                            | with_reducible exact unhide SX _ (ez1 _ _)
                            | with_reducible exact unhide SX _ (ez2 _ _ _)
                            | with_reducible exact unhide SX _ (ez1D _ _)
                            | with_reducible exact unhide SX _ (ez2D _ _ _)
                            | fail
                        clear hK K
                        try simp only [Act.put, List.setIfInBounds_toArray, List.set_cons_zero, List.set_cons_succ]
                        refine wpAnyH_ready (rs := [17]) (by kernel_rfl) (by simp) ?_
                        refine AllReadyH.cons rfl (fun K hK => ?_) ?_
                        · go_simp
                          refine hK.out _ _ ?_ (fun hHeld => ?_)
                          · first
                              | with_reducible exact unhide SX _ (unhide EZ)
                              | with_reducible refine (cell_six ?_).trans (unhide SX _ (unhide EZ)); (have := unhide A1W; omega)
                              | with_reducible exact unhide SX _ (below_far (unhide EZ) (ez1 _ _))
                              | with_reducible exact unhide SX _ (below_far (unhide EZ) (ez2 _ _ _))
                              | with_reducible exact unhide SX _ (below_far (unhide EZ) (ez1D _ _))
                              | with_reducible exact unhide SX _ (below_far (unhide EZ) (ez2D _ _ _))
                              | with_reducible exact unhide SX _ (ez1 _ _)
                              | with_reducible exact unhide SX _ (ez2 _ _ _)
                              | with_reducible exact unhide SX _ (ez1D _ _)
                              | with_reducible exact unhide SX _ (ez2D _ _ _)
                              | fail
                          clear hK K
                          try simp only [Act.put, List.setIfInBounds_toArray, List.set_cons_zero, List.set_cons_succ]
                          refine wpAnyH_done (by kernel_rfl) ?_ _
                          refine NoPanic.normal ?_
                          go_wp2_with fail
                          go_meet
                          exact ⟨_, mo, mc, rfl, by first | exact Nat.le_refl _ | omega | fail, mem_end (unhide KC).1 (unhide KC).2 (unhide I2) (unhide F2) (unhide EZ) (by first | exact Nat.le_refl _ | omega | fail) _ _ _⟩
                        exact AllReadyH.nil
                      exact AllReadyH.nil
                    exact AllReadyH.nil
                  exact AllReadyH.nil
                exact AllReadyH.nil
              refine AllReadyH.cons rfl (fun K hK => ?_) ?_
              · go_simp
                refine (unhide LI _).mono ?_
                rintro e z1 ⟨mo, mc, rfl, i1, b1⟩
                obtain ⟨F, i1, f1, k1, b1⟩ := lst_arm (wr := wr) (by first | with_reducible exact ez0D wr | with_reducible exact ez1D wr _ | with_reducible exact ez2D wr _ _ | fail) i1 b1
                have I1 := hide i1
                have F1 := hide f1
                have sz1 := b1.size
                skip
                clear EZ i1 f1 k1
                have EZ := hide b1
                clear b1
                go_wp2_with fail
                refine hK.out _ _ ?_ (fun hHeld => ?_)
                · first
                    | with_reducible exact unhide SX _ (unhide EZ)
                    | with_reducible refine (cell_six ?_).trans (unhide SX _ (unhide EZ)); (have := unhide A1W; omega)
                    | with_reducible exact unhide SX _ (below_far (unhide EZ) (ez1 _ _))
                    | with_reducible exact unhide SX _ (below_far (unhide EZ) (ez2 _ _ _))
                    | with_reducible exact unhide SX _ (below_far (unhide EZ) (ez1D _ _))
                    | with_reducible exact unhide SX _ (below_far (unhide EZ) (ez2D _ _ _))
                    | with_reducible exact unhide SX _ (ez1 _ _)
                    | with_reducible exact unhide SX _ (ez2 _ _ _)
                    | with_reducible exact unhide SX _ (ez1D _ _)
                    | with_reducible exact unhide SX _ (ez2D _ _ _)
                    | fail
                clear hK K
                try simp only [Act.put, List.setIfInBounds_toArray, List.set_cons_zero, List.set_cons_succ]
                refine wpAnyH_ready (rs := [0, 16]) (by kernel_rfl) (by simp) ?_
                refine AllReadyH.cons rfl (fun K hK => ?_) ?_
                · go_simp
                  refine hK.out _ _ ?_ (fun hHeld => ?_)
                  · first
                      | with_reducible exact unhide SX _ (unhide EZ)
                      | with_reducible refine (cell_six ?_).trans (unhide SX _ (unhide EZ)); (have := unhide A1W; omega)
                      | with_reducible exact unhide SX _ (below_far (unhide EZ) (ez1 _ _))
                      | with_reducible exact unhide SX _ (below_far (unhide EZ) (ez2 _ _ _))
                      | with_reducible exact unhide SX _ (below_far (unhide EZ) (ez1D _ _))
                      | with_reducible exact unhide SX _ (below_far (unhide EZ) (ez2D _ _ _))
                      | with_reducible exact unhide SX _ (ez1 _ _)
                      | with_reducible exact unhide SX _ (ez2 _ _ _)
                      | with_reducible exact unhide SX _ (ez1D _ _)
                      | with_reducible exact unhide SX _ (ez2D _ _ _)
                      | fail
                  clear hK K
                  try simp only [Act.put, List.setIfInBounds_toArray, List.set_cons_zero, List.set_cons_succ]
                  refine wpAnyH_take (i := 6) (v := ?_) rfl (by kernel_rfl) (by kernel_rfl) (by kernel_rfl) (fun _ _ _ h => h) (Or.inl ⟨by rfl, ?_⟩) (by assumption) ?_
                  rotate_left 1
                  · intro Y hY
                    go_simp
                    all_goals with_reducible rfl
                  dsimp only [Act.put]
                  try simp only [List.setIfInBounds_toArray, List.set_cons_zero, List.set_cons_succ]
                  refine wpAnyH_ready (rs := [7, 16]) (by kernel_rfl) (by simp) ?_
                  refine AllReadyH.cons rfl (fun K hK => ?_) ?_
                  · go_simp
                    refine hK.out _ _ ?_ (fun hHeld => ?_)
                    · first
                        | with_reducible exact unhide SX _ (unhide EZ)
                        | with_reducible refine (cell_six ?_).trans (unhide SX _ (unhide EZ)); (have := unhide A1W; omega)
                        | with_reducible exact unhide SX _ (below_far (unhide EZ) (ez1 _ _))
                        | with_reducible exact unhide SX _ (below_far (unhide EZ) (ez2 _ _ _))
                        | with_reducible exact unhide SX _ (below_far (unhide EZ) (ez1D _ _))
                        | with_reducible exact unhide SX _ (below_far (unhide EZ) (ez2D _ _ _))
                        | with_reducible exact unhide SX _ (ez1 _ _)
                        | with_reducible exact unhide SX _ (ez2 _ _ _)
                        | with_reducible exact unhide SX _ (ez1D _ _)
                        | with_reducible exact unhide SX _ (ez2D _ _ _)
                        | fail
                    clear hK K
                    try simp only [Act.put, List.setIfInBounds_toArray, List.set_cons_zero, List.set_cons_succ]
                    refine wpAnyH_take (i := 14) (v := ?_) rfl (by kernel_rfl) (by kernel_rfl) (by kernel_rfl) (fun _ _ _ h => h) (Or.inl ⟨by rfl, ?_⟩) (by assumption) ?_
                    rotate_left 1
                    · intro Y hY
                      go_simp
                      all_goals with_reducible rfl
                    dsimp only [Act.put]
                    try simp only [List.setIfInBounds_toArray, List.set_cons_zero, List.set_cons_succ]
                    refine wpAnyH_ready (rs := [15, 16]) (by kernel_rfl) (by simp) ?_
                    refine AllReadyH.cons rfl (fun K hK => ?_) ?_
                    · go_simp
                      refine (unhide GO _ (by decide) _ _ _).mono ?_
                      rintro e z2 ⟨rfl, b2⟩
                      obtain ⟨i2, f2, k2, k2', n2, e2⟩ := good_arm (wr := wr) (z1 := z1) (by first | with_reducible exact Below.refl _ z1 | with_reducible exact ez1 z1 _ | with_reducible exact ez2 z1 _ _ | fail) b2 (unhide I1) (unhide F1) (unhide EZ)
                      have I2 := hide i2
                      have F2 := hide f2
                      have sz2 := e2.size
                      skip
                      clear EZ i2 f2 k2 k2' n2 b2
                      have EZ := hide e2
                      clear e2
                      go_wp2_with fail
                      refine hK.out _ _ ?_ (fun hHeld => ?_)
                      · first
                          | with_reducible exact unhide SX _ (unhide EZ)
                          | with_reducible refine (cell_six ?_).trans (unhide SX _ (unhide EZ)); (have := unhide A1W; omega)
                          | with_reducible exact unhide SX _ (below_far (unhide EZ) (ez1 _ _))
                          | with_reducible exact unhide SX _ (below_far (unhide EZ) (ez2 _ _ _))
                          | with_reducible exact unhide SX _ (below_far (unhide EZ) (ez1D _ _))
                          | with_reducible exact unhide SX _ (below_far (unhide EZ) (ez2D _ _ _))
                          | with_reducible exact unhide SX _ (ez1 _ _)
                          | with_reducible exact unhide SX _ (ez2 _ _ _)
                          | with_reducible exact unhide SX _ (ez1D _ _)
                          | with_reducible exact unhide SX _ (ez2D _ _ _)
                          | fail
                      clear hK K
                      try simp only [Act.put, List.setIfInBounds_toArray, List.set_cons_zero, List.set_cons_succ]
                      refine wpAnyH_ready (rs := [16]) (by kernel_rfl) (by simp) ?_
                      refine AllReadyH.cons rfl (fun K hK => ?_) ?_
                      · go_simp
                        refine hK.out _ _ ?_ (fun hHeld => ?_)
                        · first
                            | with_reducible exact unhide SX _ (unhide EZ)
                            | with_reducible refine (cell_six ?_).trans (unhide SX _ (unhide EZ)); (have := unhide A1W; omega)
                            | with_reducible exact unhide SX _ (below_far (unhide EZ) (ez1 _ _))
                            | with_reducible exact unhide SX _ (below_far (unhide EZ) (ez2 _ _ _))
                            | with_reducible exact unhide SX _ (below_far (unhide EZ) (ez1D _ _))
                            | with_reducible exact unhide SX _ (below_far (unhide EZ) (ez2D _ _ _))
                            | with_reducible exact unhide SX _ (ez1 _ _)
                            | with_reducible exact unhide SX _ (ez2 _ _ _)
                            | with_reducible exact unhide SX _ (ez1D _ _)
                            | with_reducible exact unhide SX _ (ez2D _ _ _)
                            | fail
                        clear hK K
                        try simp only [Act.put, List.setIfInBounds_toArray, List.set_cons_zero, List.set_cons_succ]
                        refine wpAnyH_ready (rs := [17]) (by kernel_rfl) (by simp) ?_
                        refine AllReadyH.cons rfl (fun K hK => ?_) ?_
                        · go_simp
                          refine hK.out _ _ ?_ (fun hHeld => ?_)
                          · first
                              | with_reducible exact unhide SX _ (unhide EZ)
                              | with_reducible refine (cell_six ?_).trans (unhide SX _ (unhide EZ)); (have := unhide A1W; omega)
                              | with_reducible exact unhide SX _ (below_far (unhide EZ) (ez1 _ _))
                              | with_reducible exact unhide SX _ (below_far (unhide EZ) (ez2 _ _ _))
                              | with_reducible exact unhide SX _ (below_far (unhide EZ) (ez1D _ _))
                              | with_reducible exact unhide SX _ (below_far (unhide EZ) (ez2D _ _ _))
                              | with_reducible exact unhide SX _ (ez1 _ _)
                              | with_reducible exact unhide SX _ (ez2 _ _ _)
                              | with_reducible exact unhide SX _ (ez1D _ _)
                              | with_reducible exact unhide SX _ (ez2D _ _ _)
                              | fail
                          clear hK K
                          try simp only [Act.put, List.setIfInBounds_toArray, List.set_cons_zero, List.set_cons_succ]
                          refine wpAnyH_done (by kernel_rfl) ?_ _
                          refine NoPanic.normal ?_
                          go_wp2_with fail
                          go_meet
                          exact ⟨_, mo, mc, rfl, sz2, new_end (unhide I2) (unhide F2) (unhide EZ) _ _ _⟩
                        exact AllReadyH.nil
                      exact AllReadyH.nil
                    refine AllReadyH.cons rfl (fun K hK => ?_) ?_
                    · go_simp
                      refine hK.out _ _ ?_ (fun hHeld => ?_)
                      · first
                          | with_reducible exact unhide SX _ (unhide EZ)
                          | with_reducible refine (cell_six ?_).trans (unhide SX _ (unhide EZ)); (have := unhide A1W; omega)
                          | with_reducible exact unhide SX _ (below_far (unhide EZ) (ez1 _ _))
                          | with_reducible exact unhide SX _ (below_far (unhide EZ) (ez2 _ _ _))
                          | with_reducible exact unhide SX _ (below_far (unhide EZ) (ez1D _ _))
                          | with_reducible exact unhide SX _ (below_far (unhide EZ) (ez2D _ _ _))
                          | with_reducible exact unhide SX _ (ez1 _ _)
                          | with_reducible exact unhide SX _ (ez2 _ _ _)
                          | with_reducible exact unhide SX _ (ez1D _ _)
                          | with_reducible exact unhide SX _ (ez2D _ _ _)
                          | fail
                      clear hK K
                      try simp only [Act.put, List.setIfInBounds_toArray, List.set_cons_zero, List.set_cons_succ]
                      refine wpAnyH_ready (rs := [15]) (by kernel_rfl) (by simp) ?_
                      refine AllReadyH.cons rfl (fun K hK => ?_) ?_
                      · go_simp
                        refine (unhide GO _ (by decide) _ _ _).mono ?_
                        rintro e z2 ⟨rfl, b2⟩
                        obtain ⟨i2, f2, k2, k2', n2, e2⟩ := good_arm (wr := wr) (z1 := z1) (by first | with_reducible exact Below.refl _ z1 | with_reducible exact ez1 z1 _ | with_reducible exact ez2 z1 _ _ | fail) b2 (unhide I1) (unhide F1) (unhide EZ)
                        have I2 := hide i2
                        have F2 := hide f2
                        have sz2 := e2.size
                        have KC := hide (And.intro (k2 _ _ (box2 z1 rowK boxZ).2.1) (n2 _ (Nat.le_succ _)))
                        obtain ⟨⟨d0, d1, d2, d3, d4, d5⟩, fz⟩ := six_rules (unhide KC).1
                        clear EZ i2 f2 k2 k2' n2 b2
                        have EZ := hide e2
                        clear e2
                        go_wp2_with fail
                        refine hK.out _ _ ?_ (fun hHeld => ?_)
                        · first
                            | with_reducible exact unhide SX _ (unhide EZ)
                            | with_reducible refine (cell_six ?_).trans (unhide SX _ (unhide EZ)); (have := unhide A1W; omega)
                            | with_reducible exact unhide SX _ (below_far (unhide EZ) (ez1 _ _))
                            | with_reducible exact unhide SX _ (below_far (unhide EZ) (ez2 _ _ _))
                            | with_reducible exact unhide SX _ (below_far (unhide EZ) (ez1D _ _))
                            | with_reducible exact unhide SX _ (below_far (unhide EZ) (ez2D _ _ _))
                            | with_reducible exact unhide SX _ (ez1 _ _)
                            | with_reducible exact unhide SX _ (ez2 _ _ _)
                            | with_reducible exact unhide SX _ (ez1D _ _)
                            | with_reducible exact unhide SX _ (ez2D _ _ _)
                            | fail
                        clear hK K
                        try simp only [Act.put, List.setIfInBounds_toArray, List.set_cons_zero, List.set_cons_succ]
                        refine wpAnyH_ready (rs := [17]) (by kernel_rfl) (by simp) ?_
                        refine AllReadyH.cons rfl (fun K hK => ?_) ?_
                        · go_simp
                          refine hK.out _ _ ?_ (fun hHeld => ?_)
                          · first
                              | with_reducible exact unhide SX _ (unhide EZ)
                              | with_reducible refine (cell_six ?_).trans (unhide SX _ (unhide EZ)); (have := unhide A1W; omega)
                              | with_reducible exact unhide SX _ (below_far (unhide EZ) (ez1 _ _))
                              | with_reducible exact unhide SX _ (below_far (unhide EZ) (ez2 _ _ _))
                              | with_reducible exact unhide SX _ (below_far (unhide EZ) (ez1D _ _))
                              | with_reducible exact unhide SX _ (below_far (unhide EZ) (ez2D _ _ _))
                              | with_reducible exact unhide SX _ (ez1 _ _)
                              | with_reducible exact unhide SX _ (ez2 _ _ _)
                              | with_reducible exact unhide SX _ (ez1D _ _)
                              | with_reducible exact unhide SX _ (ez2D _ _ _)
                              | fail
                          clear hK K
                          try simp only [Act.put, List.setIfInBounds_toArray, List.set_cons_zero, List.set_cons_succ]
                          refine wpAnyH_done (by kernel_rfl) ?_ _
                          refine NoPanic.normal ?_
                          go_wp2_with fail
                          go_meet
                          exact ⟨_, mo, mc, rfl, by first | exact Nat.le_refl _ | omega | fail, mem_end (unhide KC).1 (unhide KC).2 (unhide I2) (unhide F2) (unhide EZ) (by first | exact Nat.le_refl _ | omega | fail) _ _ _⟩
                        exact AllReadyH.nil
                      exact AllReadyH.nil
                    exact AllReadyH.nil
                  refine AllReadyH.cons rfl (fun K hK => ?_) ?_
                  · go_simp
                    refine hK.out _ _ ?_ (fun hHeld => ?_)
                    · first
                        | with_reducible exact unhide SX _ (unhide EZ)
                        | with_reducible refine (cell_six ?_).trans (unhide SX _ (unhide EZ)); (have := unhide A1W; omega)
                        | with_reducible exact unhide SX _ (below_far (unhide EZ) (ez1 _ _))
                        | with_reducible exact unhide SX _ (below_far (unhide EZ) (ez2 _ _ _))
                        | with_reducible exact unhide SX _ (below_far (unhide EZ) (ez1D _ _))
                        | with_reducible exact unhide SX _ (below_far (unhide EZ) (ez2D _ _ _))
                        | with_reducible exact unhide SX _ (ez1 _ _)
                        | with_reducible exact unhide SX _ (ez2 _ _ _)
                        | with_reducible exact unhide SX _ (ez1D _ _)
                        | with_reducible exact unhide SX _ (ez2D _ _ _)
                        | fail
                    clear hK K
                    try simp only [Act.put, List.setIfInBounds_toArray, List.set_cons_zero, List.set_cons_succ]
                    refine wpAnyH_ready (rs := [7]) (by kernel_rfl) (by simp) ?_
                    refine AllReadyH.cons rfl (fun K hK => ?_) ?_
                    · go_simp
                      refine hK.out _ _ ?_ (fun hHeld => ?_)
                      · first
                          | with_reducible exact unhide SX _ (unhide EZ)
                          | with_reducible refine (cell_six ?_).trans (unhide SX _ (unhide EZ)); (have := unhide A1W; omega)
                          | with_reducible exact unhide SX _ (below_far (unhide EZ) (ez1 _ _))
                          | with_reducible exact unhide SX _ (below_far (unhide EZ) (ez2 _ _ _))
                          | with_reducible exact unhide SX _ (below_far (unhide EZ) (ez1D _ _))
                          | with_reducible exact unhide SX _ (below_far (unhide EZ) (ez2D _ _ _))
                          | with_reducible exact unhide SX _ (ez1 _ _)
                          | with_reducible exact unhide SX _ (ez2 _ _ _)
                          | with_reducible exact unhide SX _ (ez1D _ _)
                          | with_reducible exact unhide SX _ (ez2D _ _ _)
                          | fail
                      clear hK K
                      try simp only [Act.put, List.setIfInBounds_toArray, List.set_cons_zero, List.set_cons_succ]
                      refine wpAnyH_take (i := 14) (v := ?_) rfl (by kernel_rfl) (by kernel_rfl) (by kernel_rfl) (fun _ _ _ h => h) (Or.inl ⟨by rfl, ?_⟩) (by assumption) ?_
                      rotate_left 1
                      · intro Y hY
                        go_simp
                        all_goals with_reducible rfl
                      dsimp only [Act.put]
                      try simp only [List.setIfInBounds_toArray, List.set_cons_zero, List.set_cons_succ]
                      refine wpAnyH_ready (rs := [15]) (by kernel_rfl) (by simp) ?_
                      refine AllReadyH.cons rfl (fun K hK => ?_) ?_
                      · go_simp
                        refine (unhide GO _ (by decide) _ _ _).mono ?_
                        rintro e z2 ⟨rfl, b2⟩
                        obtain ⟨i2, f2, k2, k2', n2, e2⟩ := good_arm (wr := wr) (z1 := z1) (by first | with_reducible exact Below.refl _ z1 | with_reducible exact ez1 z1 _ | with_reducible exact ez2 z1 _ _ | fail) b2 (unhide I1) (unhide F1) (unhide EZ)
                        have I2 := hide i2
                        have F2 := hide f2
                        have sz2 := e2.size
                        have KC := hide (And.intro (k2 _ _ (box2 z1 rowK boxZ).2.1) (n2 _ (Nat.le_succ _)))
                        obtain ⟨⟨d0, d1, d2, d3, d4, d5⟩, fz⟩ := six_rules (unhide KC).1
                        clear EZ i2 f2 k2 k2' n2 b2
                        have EZ := hide e2
                        clear e2
                        go_wp2_with fail
                        refine hK.out _ _ ?_ (fun hHeld => ?_)
                        · first
                            | with_reducible exact unhide SX _ (unhide EZ)
                            | with_reducible refine (cell_six ?_).trans (unhide SX _ (unhide EZ)); (have := unhide A1W; omega)
                            | with_reducible exact unhide SX _ (below_far (unhide EZ) (ez1 _ _))
                            | with_reducible exact unhide SX _ (below_far (unhide EZ) (ez2 _ _ _))
                            | with_reducible exact unhide SX _ (below_far (unhide EZ) (ez1D _ _))
                            | with_reducible exact unhide SX _ (below_far (unhide EZ) (ez2D _ _ _))
                            | with_reducible exact unhide SX _ (ez1 _ _)
                            | with_reducible exact unhide SX _ (ez2 _ _ _)
                            | with_reducible exact unhide SX _ (ez1D _ _)
                            | with_reducible exact unhide SX _ (ez2D _ _ _)
                            | fail
                        clear hK K
                        try simp only [Act.put, List.setIfInBounds_toArray, List.set_cons_zero, List.set_cons_succ]
                        refine wpAnyH_ready (rs := [17]) (by kernel_rfl) (by simp) ?_
                        refine AllReadyH.cons rfl (fun K hK => ?_) ?_
                        · go_simp
                          refine hK.out _ _ ?_ (fun hHeld => ?_)
                          · first
                              | with_reducible exact unhide SX _ (unhide EZ)
                              | with_reducible refine (cell_six ?_).trans (unhide SX _ (unhide EZ)); (have := unhide A1W; omega)
                              | with_reducible exact unhide SX _ (below_far (unhide EZ) (ez1 _ _))
                              | with_reducible exact unhide SX _ (below_far (unhide EZ) (ez2 _ _ _))
                              | with_reducible exact unhide SX _ (below_far (unhide EZ) (ez1D _ _))
                              | with_reducible exact unhide SX _ (below_far (unhide EZ) (ez2D _ _ _))
                              | with_reducible exact unhide SX _ (ez1 _ _)
                              | with_reducible exact unhide SX _ (ez2 _ _ _)
                              | with_reducible exact unhide SX _ (ez1D _ _)
                              | with_reducible exact unhide SX _ (ez2D _ _ _)
                              | fail
                          clear hK K
                          try simp only [Act.put, List.setIfInBounds_toArray, List.set_cons_zero, List.set_cons_succ]
                          refine wpAnyH_done (by kernel_rfl) ?_ _
                          refine NoPanic.normal ?_
                          go_wp2_with fail
                          go_meet
                          exact ⟨_, mo, mc, rfl, by first | exact Nat.le_refl _ | omega | fail, mem_end (unhide KC).1 (unhide KC).2 (unhide I2) (unhide F2) (unhide EZ) (by first | exact Nat.le_refl _ | omega | fail) _ _ _⟩
                        exact AllReadyH.nil
                      exact AllReadyH.nil
                    exact AllReadyH.nil
                  exact AllReadyH.nil
                refine AllReadyH.cons rfl (fun K hK => ?_) ?_
                · go_simp
                  refine hK.out _ _ ?_ (fun hHeld => ?_)
                  · first
                      | with_reducible exact unhide SX _ (unhide EZ)
                      | with_reducible refine (cell_six ?_).trans (unhide SX _ (unhide EZ)); (have := unhide A1W; omega)
                      | with_reducible exact unhide SX _ (below_far (unhide EZ) (ez1 _ _))
                      | with_reducible exact unhide SX _ (below_far (unhide EZ) (ez2 _ _ _))
                      | with_reducible exact unhide SX _ (below_far (unhide EZ) (ez1D _ _))
                      | with_reducible exact unhide SX _ (below_far (unhide EZ) (ez2D _ _ _))
                      | with_reducible exact unhide SX _ (ez1 _ _)
                      | with_reducible exact unhide SX _ (ez2 _ _ _)
                      | with_reducible exact unhide SX _ (ez1D _ _)
                      | with_reducible exact unhide SX _ (ez2D _ _ _)
                      | fail
                  clear hK K
                  try simp only [Act.put, List.setIfInBounds_toArray, List.set_cons_zero, List.set_cons_succ]
                  refine wpAnyH_ready (rs := [0]) (by kernel_rfl) (by simp) ?_
                  refine AllReadyH.cons rfl (fun K hK => ?_) ?_
                  · go_simp
                    refine hK.out _ _ ?_ (fun hHeld => ?_)
                    · first
                        | with_reducible exact unhide SX _ (unhide EZ)
                        | with_reducible refine (cell_six ?_).trans (unhide SX _ (unhide EZ)); (have := unhide A1W; omega)
                        | with_reducible exact unhide SX _ (below_far (unhide EZ) (ez1 _ _))
                        | with_reducible exact unhide SX _ (below_far (unhide EZ) (ez2 _ _ _))
                        | with_reducible exact unhide SX _ (below_far (unhide EZ) (ez1D _ _))
                        | with_reducible exact unhide SX _ (below_far (unhide EZ) (ez2D _ _ _))
                        | with_reducible exact unhide SX _ (ez1 _ _)
                        | with_reducible exact unhide SX _ (ez2 _ _ _)
                        | with_reducible exact unhide SX _ (ez1D _ _)
                        | with_reducible exact unhide SX _ (ez2D _ _ _)
                        | fail
                    clear hK K
                    try simp only [Act.put, List.setIfInBounds_toArray, List.set_cons_zero, List.set_cons_succ]
                    refine wpAnyH_take (i := 6) (v := ?_) rfl (by kernel_rfl) (by kernel_rfl) (by kernel_rfl) (fun _ _ _ h => h) (Or.inl ⟨by rfl, ?_⟩) (by assumption) ?_
                    rotate_left 1
                    · intro Y hY
                      go_simp
                      all_goals with_reducible rfl
                    dsimp only [Act.put]
                    try simp only [List.setIfInBounds_toArray, List.set_cons_zero, List.set_cons_succ]
                    refine wpAnyH_ready (rs := [7]) (by kernel_rfl) (by simp) ?_
                    refine AllReadyH.cons rfl (fun K hK => ?_) ?_
                    · go_simp
                      refine hK.out _ _ ?_ (fun hHeld => ?_)
                      · first
                          | with_reducible exact unhide SX _ (unhide EZ)
                          | with_reducible refine (cell_six ?_).trans (unhide SX _ (unhide EZ)); (have := unhide A1W; omega)
                          | with_reducible exact unhide SX _ (below_far (unhide EZ) (ez1 _ _))
                          | with_reducible exact unhide SX _ (below_far (unhide EZ) (ez2 _ _ _))
                          | with_reducible exact unhide SX _ (below_far (unhide EZ) (ez1D _ _))
                          | with_reducible exact unhide SX _ (below_far (unhide EZ) (ez2D _ _ _))
                          | with_reducible exact unhide SX _ (ez1 _ _)
                          | with_reducible exact unhide SX _ (ez2 _ _ _)
                          | with_reducible exact unhide SX _ (ez1D _ _)
                          | with_reducible exact unhide SX _ (ez2D _ _ _)
                          | fail
                      clear hK K
                      try simp only [Act.put, List.setIfInBounds_toArray, List.set_cons_zero, List.set_cons_succ]
                      refine wpAnyH_take (i := 14) (v := ?_) rfl (by kernel_rfl) (by kernel_rfl) (by kernel_rfl) (fun _ _ _ h => h) (Or.inl ⟨by rfl, ?_⟩) (by assumption) ?_
                      rotate_left 1
                      · intro Y hY
                        go_simp
                        all_goals with_reducible rfl
                      dsimp only [Act.put]
                      try simp only [List.setIfInBounds_toArray, List.set_cons_zero, List.set_cons_succ]
                      refine wpAnyH_ready (rs := [15]) (by kernel_rfl) (by simp) ?_
                      refine AllReadyH.cons rfl (fun K hK => ?_) ?_
                      · go_simp
                        refine (unhide GO _ (by decide) _ _ _).mono ?_
                        rintro e z2 ⟨rfl, b2⟩
                        obtain ⟨i2, f2, k2, k2', n2, e2⟩ := good_arm (wr := wr) (z1 := z1) (by first | with_reducible exact Below.refl _ z1 | with_reducible exact ez1 z1 _ | with_reducible exact ez2 z1 _ _ | fail) b2 (unhide I1) (unhide F1) (unhide EZ)
                        have I2 := hide i2
                        have F2 := hide f2
                        have sz2 := e2.size
                        have KC := hide (And.intro (k2 _ _ (box2 z1 boxZ rowK).1) (n2 _ (Nat.le_refl _)))
                        obtain ⟨⟨d0, d1, d2, d3, d4, d5⟩, fz⟩ := six_rules (unhide KC).1
                        clear EZ i2 f2 k2 k2' n2 b2
                        have EZ := hide e2
                        clear e2
                        go_wp2_with fail
                        refine hK.out _ _ ?_ (fun hHeld => ?_)
                        · first
                            | with_reducible exact unhide SX _ (unhide EZ)
                            | with_reducible refine (cell_six ?_).trans (unhide SX _ (unhide EZ)); (have := unhide A1W; omega)
                            | with_reducible exact unhide SX _ (below_far (unhide EZ) (ez1 _ _))
                            | with_reducible exact unhide SX _ (below_far (unhide EZ) (ez2 _ _ _))
                            | with_reducible exact unhide SX _ (below_far (unhide EZ) (ez1D _ _))
                            | with_reducible exact unhide SX _ (below_far (unhide EZ) (ez2D _ _ _))
                            | with_reducible exact unhide SX _ (ez1 _ _)
                            | with_reducible exact unhide SX _ (ez2 _ _ _)
                            | with_reducible exact unhide SX _ (ez1D _ _)
                            | with_reducible exact unhide SX _ (ez2D _ _ _)
                            | fail
                        clear hK K
                        try simp only [Act.put, List.setIfInBounds_toArray, List.set_cons_zero, List.set_cons_succ]
                        refine wpAnyH_ready (rs := [17]) (by kernel_rfl) (by simp) ?_
                        refine AllReadyH.cons rfl (fun K hK => ?_) ?_
                        · go_simp
                          refine hK.out _ _ ?_ (fun hHeld => ?_)
                          · first
                              | with_reducible exact unhide SX _ (unhide EZ)
                              | with_reducible refine (cell_six ?_).trans (unhide SX _ (unhide EZ)); (have := unhide A1W; omega)
                              | with_reducible exact unhide SX _ (below_far (unhide EZ) (ez1 _ _))
                              | with_reducible exact unhide SX _ (below_far (unhide EZ) (ez2 _ _ _))
                              | with_reducible exact unhide SX _ (below_far (unhide EZ) (ez1D _ _))
                              | with_reducible exact unhide SX _ (below_far (unhide EZ) (ez2D _ _ _))
                              | with_reducible exact unhide SX _ (ez1 _ _)
                              | with_reducible exact unhide SX _ (ez2 _ _ _)
                              | with_reducible exact unhide SX _ (ez1D _ _)
                              | with_reducible exact unhide SX _ (ez2D _ _ _)
                              | fail
                          clear hK K
                          try simp only [Act.put, List.setIfInBounds_toArray, List.set_cons_zero, List.set_cons_succ]
                          refine wpAnyH_done (by kernel_rfl) ?_ _
                          refine NoPanic.normal ?_
                          go_wp2_with fail
                          go_meet
                          exact ⟨_, mo, mc, rfl, by first | exact Nat.le_refl _ | omega | fail, mem_end (unhide KC).1 (unhide KC).2 (unhide I2) (unhide F2) (unhide EZ) (by first | exact Nat.le_refl _ | omega | fail) _ _ _⟩
                        exact AllReadyH.nil
                      exact AllReadyH.nil
                    exact AllReadyH.nil
                  exact AllReadyH.nil
                exact AllReadyH.nil
              refine AllReadyH.cons rfl (fun K hK => ?_) ?_
              · go_simp
                refine hK.out _ _ ?_ (fun hHeld => ?_)
                · first
                    | with_reducible exact unhide SX _ (unhide EZ)
                    | with_reducible refine (cell_six ?_).trans (unhide SX _ (unhide EZ)); (have := unhide A1W; omega)
                    | with_reducible exact unhide SX _ (below_far (unhide EZ) (ez1 _ _))
                    | with_reducible exact unhide SX _ (below_far (unhide EZ) (ez2 _ _ _))
                    | with_reducible exact unhide SX _ (below_far (unhide EZ) (ez1D _ _))
                    | with_reducible exact unhide SX _ (below_far (unhide EZ) (ez2D _ _ _))
                    | with_reducible exact unhide SX _ (ez1 _ _)
                    | with_reducible exact unhide SX _ (ez2 _ _ _)
                    | with_reducible exact unhide SX _ (ez1D _ _)
                    | with_reducible exact unhide SX _ (ez2D _ _ _)
                    | fail
                clear hK K
                try simp only [Act.put, List.setIfInBounds_toArray, List.set_cons_zero, List.set_cons_succ]
                refine wpAnyH_ready (rs := [0, 13]) (by kernel_rfl) (by simp) ?_
                refine AllReadyH.cons rfl (fun K hK => ?_) ?_
                · go_simp
                  refine hK.out _ _ ?_ (fun hHeld => ?_)
                  · first
                      | with_reducible exact unhide SX _ (unhide EZ)
                      | with_reducible refine (cell_six ?_).trans (unhide SX _ (unhide EZ)); (have := unhide A1W; omega)
                      | with_reducible exact unhide SX _ (below_far (unhide EZ) (ez1 _ _))
                      | with_reducible exact unhide SX _ (below_far (unhide EZ) (ez2 _ _ _))
                      | with_reducible exact unhide SX _ (below_far (unhide EZ) (ez1D _ _))
                      | with_reducible exact unhide SX _ (below_far (unhide EZ) (ez2D _ _ _))
                      | with_reducible exact unhide SX _ (ez1 _ _)
                      | with_reducible exact unhide SX _ (ez2 _ _ _)
                      | with_reducible exact unhide SX _ (ez1D _ _)
                      | with_reducible exact unhide SX _ (ez2D _ _ _)
                      | fail
                  clear hK K
                  try simp only [Act.put, List.setIfInBounds_toArray, List.set_cons_zero, List.set_cons_succ]
                  refine wpAnyH_take (i := 6) (v := ?_) rfl (by kernel_rfl) (by kernel_rfl) (by kernel_rfl) (fun _ _ _ h => h) (Or.inl ⟨by rfl, ?_⟩) (by assumption) ?_
                  rotate_left 1
                  · intro Y hY
                    go_simp
                    all_goals with_reducible rfl
                  dsimp only [Act.put]
                  try simp only [List.setIfInBounds_toArray, List.set_cons_zero, List.set_cons_succ]
                  refine wpAnyH_ready (rs := [7, 13]) (by kernel_rfl) (by simp) ?_
                  refine AllReadyH.cons rfl (fun K hK => ?_) ?_
                  · go_simp
                    refine hK.out _ _ ?_ (fun hHeld => ?_)
                    · first
                        | with_reducible exact unhide SX _ (unhide EZ)
                        | with_reducible refine (cell_six ?_).trans (unhide SX _ (unhide EZ)); (have := unhide A1W; omega)
                        | with_reducible exact unhide SX _ (below_far (unhide EZ) (ez1 _ _))
                        | with_reducible exact unhide SX _ (below_far (unhide EZ) (ez2 _ _ _))
                        | with_reducible exact unhide SX _ (below_far (unhide EZ) (ez1D _ _))
                        | with_reducible exact unhide SX _ (below_far (unhide EZ) (ez2D _ _ _))
                        | with_reducible exact unhide SX _ (ez1 _ _)
                        | with_reducible exact unhide SX _ (ez2 _ _ _)
                        | with_reducible exact unhide SX _ (ez1D _ _)
                        | with_reducible exact unhide SX _ (ez2D _ _ _)
                        | fail
                    clear hK K
                    try simp only [Act.put, List.setIfInBounds_toArray, List.set_cons_zero, List.set_cons_succ]
                    refine wpAnyH_ready (rs := [13]) (by kernel_rfl) (by simp) ?_
                    refine AllReadyH.cons rfl (fun K hK => ?_) ?_
                    · go_simp
                      refine (unhide LI _).mono ?_
                      rintro e z1 ⟨mo, mc, rfl, i1, b1⟩
                      obtain ⟨F, i1, f1, k1, b1⟩ := lst_arm (wr := wr) (by first | with_reducible exact ez0D wr | with_reducible exact ez1D wr _ | with_reducible exact ez2D wr _ _ | fail) i1 b1
                      have I1 := hide i1
                      have F1 := hide f1
                      have sz1 := b1.size
                      have KB := hide (k1 _ _ (box2D wr boxZ rowK).1)
                      clear EZ i1 f1 k1
                      have EZ := hide b1
                      clear b1
                      go_wp2_with fail
                      refine hK.out _ _ ?_ (fun hHeld => ?_)
                      · first
                          | with_reducible exact unhide SX _ (unhide EZ)
                          | with_reducible refine (cell_six ?_).trans (unhide SX _ (unhide EZ)); (have := unhide A1W; omega)
                          | with_reducible exact unhide SX _ (below_far (unhide EZ) (ez1 _ _))
                          | with_reducible exact unhide SX _ (below_far (unhide EZ) (ez2 _ _ _))
                          | with_reducible exact unhide SX _ (below_far (unhide EZ) (ez1D _ _))
                          | with_reducible exact unhide SX _ (below_far (unhide EZ) (ez2D _ _ _))
                          | with_reducible exact unhide SX _ (ez1 _ _)
                          | with_reducible exact unhide SX _ (ez2 _ _ _)
                          | with_reducible exact unhide SX _ (ez1D _ _)
                          | with_reducible exact unhide SX _ (ez2D _ _ _)
                          | fail
                      clear hK K
                      try simp only [Act.put, List.setIfInBounds_toArray, List.set_cons_zero, List.set_cons_succ]
                      refine wpAnyH_take (i := 14) (v := ?_) rfl (by kernel_rfl) (by kernel_rfl) (by kernel_rfl) (fun _ _ _ h => h) (Or.inl ⟨by rfl, ?_⟩) (by assumption) ?_
                      rotate_left 1
                      · intro Y hY
                        go_simp
                        all_goals with_reducible rfl
                      dsimp only [Act.put]
                      try simp only [List.setIfInBounds_toArray, List.set_cons_zero, List.set_cons_succ]
                      refine wpAnyH_ready (rs := [15]) (by kernel_rfl) (by simp) ?_
                      refine AllReadyH.cons rfl (fun K hK => ?_) ?_
                      · go_simp
                        refine (unhide GO _ (by decide) _ _ _).mono ?_
                        rintro e z2 ⟨rfl, b2⟩
                        obtain ⟨i2, f2, k2, k2', n2, e2⟩ := good_arm (wr := wr) (z1 := z1) (by first | with_reducible exact Below.refl _ z1 | with_reducible exact ez1 z1 _ | with_reducible exact ez2 z1 _ _ | fail) b2 (unhide I1) (unhide F1) (unhide EZ)
                        have I2 := hide i2
                        have F2 := hide f2
                        have sz2 := e2.size
                        have KC := hide (And.intro (k2' _ _ (unhide KB).1) (unhide KB).2)
                        obtain ⟨⟨d0, d1, d2, d3, d4, d5⟩, fz⟩ := six_rules (unhide KC).1
                        clear EZ i2 f2 k2 k2' n2 b2
                        have EZ := hide e2
                        clear e2
                        go_wp2_with fail
                        refine hK.out _ _ ?_ (fun hHeld => ?_)
                        · first
                            | with_reducible exact unhide SX _ (unhide EZ)
                            | with_reducible refine (cell_six ?_).trans (unhide SX _ (unhide EZ)); (have := unhide A1W; omega)
                            | with_reducible exact unhide SX _ (below_far (unhide EZ) (ez1 _ _))
                            | with_reducible exact unhide SX _ (below_far (unhide EZ) (ez2 _ _ _))
                            | with_reducible exact unhide SX _ (below_far (unhide EZ) (ez1D _ _))
                            | with_reducible exact unhide SX _ (below_far (unhide EZ) (ez2D _ _ _))
                            | with_reducible exact unhide SX _ (ez1 _ _)
                            | with_reducible exact unhide SX _ (ez2 _ _ _)
                            | with_reducible exact unhide SX _ (ez1D _ _)
                            | with_reducible exact unhide SX _ (ez2D _ _ _)
                            | fail
                        clear hK K
                        try simp only [Act.put, List.setIfInBounds_toArray, List.set_cons_zero, List.set_cons_succ]
                        refine wpAnyH_ready (rs := [17]) (by kernel_rfl) (by simp) ?_
                        refine AllReadyH.cons rfl (fun K hK => ?_) ?_
                        · go_simp
                          refine hK.out _ _ ?_ (fun hHeld => ?_)
                          · first
                              | with_reducible exact unhide SX _ (unhide EZ)
                              | with_reducible refine (cell_six ?_).trans (unhide SX _ (unhide EZ)); (have := unhide A1W; omega)
                              | with_reducible exact unhide SX _ (below_far (unhide EZ) (ez1 _ _))
                              | with_reducible exact unhide SX _ (below_far (unhide EZ) (ez2 _ _ _))
                              | with_reducible exact unhide SX _ (below_far (unhide EZ) (ez1D _ _))
                              | with_reducible exact unhide SX _ (below_far (unhide EZ) (ez2D _ _ _))
                              | with_reducible exact unhide SX _ (ez1 _ _)
                              | with_reducible exact unhide SX _ (ez2 _ _ _)
                              | with_reducible exact unhide SX _ (ez1D _ _)
                              | with_reducible exact unhide SX _ (ez2D _ _ _)
                              | fail
                          clear hK K
                          try simp only [Act.put, List.setIfInBounds_toArray, List.set_cons_zero, List.set_cons_succ]
                          refine wpAnyH_done (by kernel_rfl) ?_ _
                          refine NoPanic.normal ?_
                          go_wp2_with fail
                          go_meet
                          exact ⟨_, mo, mc, rfl, by first | exact Nat.le_refl _ | omega | fail, mem_end (unhide KC).1 (unhide KC).2 (unhide I2) (unhide F2) (unhide EZ) (by first | exact Nat.le_refl _ | omega | fail) _ _ _⟩
                        exact AllReadyH.nil
                      exact AllReadyH.nil
                    exact AllReadyH.nil
                  refine AllReadyH.cons rfl (fun K hK => ?_) ?_
                  · go_simp
                    refine (unhide LI _).mono ?_
                    rintro e z1 ⟨mo, mc, rfl, i1, b1⟩
                    obtain ⟨F, i1, f1, k1, b1⟩ := lst_arm (wr := wr) (by first | with_reducible exact ez0D wr | with_reducible exact ez1D wr _ | with_reducible exact ez2D wr _ _ | fail) i1 b1
                    have I1 := hide i1
                    have F1 := hide f1
                    have sz1 := b1.size
                    have KB := hide (k1 _ _ (box2D wr boxZ rowK).1)
                    have RR := (k1 _ _ (box2D wr boxZ rowK).2).1
                    obtain ⟨r0, r1, r2⟩ := row_rules RR
                    have ra := fun o => (row_rules (Below.stay (ez1 z1 o) RR)).1
                    have rb := fun o => (row_rules (Below.stay (ez1 z1 o) RR)).2.1
                    have rc := fun o => (row_rules (Below.stay (ez1 z1 o) RR)).2.2
                    clear RR
                    clear EZ i1 f1 k1
                    have EZ := hide b1
                    clear b1
                    go_wp2_with fail
                    refine hK.out _ _ ?_ (fun hHeld => ?_)
                    · first
                        | with_reducible exact unhide SX _ (unhide EZ)
                        | with_reducible refine (cell_six ?_).trans (unhide SX _ (unhide EZ)); (have := unhide A1W; omega)
                        | with_reducible exact unhide SX _ (below_far (unhide EZ) (ez1 _ _))
                        | with_reducible exact unhide SX _ (below_far (unhide EZ) (ez2 _ _ _))
                        | with_reducible exact unhide SX _ (below_far (unhide EZ) (ez1D _ _))
                        | with_reducible exact unhide SX _ (below_far (unhide EZ) (ez2D _ _ _))
                        | with_reducible exact unhide SX _ (ez1 _ _)
                        | with_reducible exact unhide SX _ (ez2 _ _ _)
                        | with_reducible exact unhide SX _ (ez1D _ _)
                        | with_reducible exact unhide SX _ (ez2D _ _ _)
                        | fail
                    clear hK K
                    try simp only [Act.put, List.setIfInBounds_toArray, List.set_cons_zero, List.set_cons_succ]
                    refine wpAnyH_ready (rs := [7]) (by kernel_rfl) (by simp) ?_
                    refine AllReadyH.cons rfl (fun K hK => ?_) ?_
                    · go_simp
                      refine hK.out _ _ ?_ (fun hHeld => ?_)
                      · first
                          | with_reducible exact unhide SX _ (unhide EZ)
                          | with_reducible refine (cell_six ?_).trans (unhide SX _ (unhide EZ)); (have := unhide A1W; omega)
                          | with_reducible exact unhide SX _ (below_far (unhide EZ) (ez1 _ _))
                          | with_reducible exact unhide SX _ (below_far (unhide EZ) (ez2 _ _ _))
                          | with_reducible exact unhide SX _ (below_far (unhide EZ) (ez1D _ _))
                          | with_reducible exact unhide SX _ (below_far (unhide EZ) (ez2D _ _ _))
                          | with_reducible exact unhide SX _ (ez1 _ _)
                          | with_reducible exact unhide SX _ (ez2 _ _ _)
                          | with_reducible exact unhide SX _ (ez1D _ _)
                          | with_reducible exact unhide SX _ (ez2D _ _ _)
                          | fail
                      clear hK K
                      try simp only [Act.put, List.setIfInBounds_toArray, List.set_cons_zero, List.set_cons_succ]
                      refine wpAnyH_take (i := 14) (v := ?_) rfl (by kernel_rfl) (by kernel_rfl) (by kernel_rfl) (fun _ _ _ h => h) (Or.inl ⟨by rfl, ?_⟩) (by assumption) ?_
                      rotate_left 1
                      · intro Y hY
                        go_simp
                        all_goals with_reducible rfl
                      dsimp only [Act.put]
                      try simp only [List.setIfInBounds_toArray, List.set_cons_zero, List.set_cons_succ]
                      refine wpAnyH_ready (rs := [15]) (by kernel_rfl) (by simp) ?_
                      refine AllReadyH.cons rfl (fun K hK => ?_) ?_
                      · go_simp
                        refine (unhide GO _ (by decide) _ _ _).mono ?_
                        rintro e z2 ⟨rfl, b2⟩
                        obtain ⟨i2, f2, k2, k2', n2, e2⟩ := good_arm (wr := wr) (z1 := z1) (by first | with_reducible exact Below.refl _ z1 | with_reducible exact ez1 z1 _ | with_reducible exact ez2 z1 _ _ | fail) b2 (unhide I1) (unhide F1) (unhide EZ)
                        have I2 := hide i2
                        have F2 := hide f2
                        have sz2 := e2.size
                        have KC := hide (And.intro (k2' _ _ (unhide KB).1) (unhide KB).2)
                        obtain ⟨⟨d0, d1, d2, d3, d4, d5⟩, fz⟩ := six_rules (unhide KC).1
                        clear EZ i2 f2 k2 k2' n2 b2
                        have EZ := hide e2
                        clear e2
                        go_wp2_with fail
                        refine hK.out _ _ ?_ (fun hHeld => ?_)
                        · first
                            | with_reducible exact unhide SX _ (unhide EZ)
                            | with_reducible refine (cell_six ?_).trans (unhide SX _ (unhide EZ)); (have := unhide A1W; omega)
                            | with_reducible exact unhide SX _ (below_far (unhide EZ) (ez1 _ _))
                            | with_reducible exact unhide SX _ (below_far (unhide EZ) (ez2 _ _ _))
                            | with_reducible exact unhide SX _ (below_far (unhide EZ) (ez1D _ _))
                            | with_reducible exact unhide SX _ (below_far (unhide EZ) (ez2D _ _ _))
                            | with_reducible exact unhide SX _ (ez1 _ _)
                            | with_reducible exact unhide SX _ (ez2 _ _ _)
                            | with_reducible exact unhide SX _ (ez1D _ _)
                            | with_reducible exact unhide SX _ (ez2D _ _ _)
                            | fail
                        clear hK K
                        try simp only [Act.put, List.setIfInBounds_toArray, List.set_cons_zero, List.set_cons_succ]
                        refine wpAnyH_ready (rs := [17]) (by kernel_rfl) (by simp) ?_
                        refine AllReadyH.cons rfl (fun K hK => ?_) ?_
                        · go_simp
                          refine hK.out _ _ ?_ (fun hHeld => ?_)
                          · first
                              | with_reducible exact unhide SX _ (unhide EZ)
                              | with_reducible refine (cell_six ?_).trans (unhide SX _ (unhide EZ)); (have := unhide A1W; omega)
                              | with_reducible exact unhide SX _ (below_far (unhide EZ) (ez1 _ _))
                              | with_reducible exact unhide SX _ (below_far (unhide EZ) (ez2 _ _ _))
                              | with_reducible exact unhide SX _ (below_far (unhide EZ) (ez1D _ _))
                              | with_reducible exact unhide SX _ (below_far (unhide EZ) (ez2D _ _ _))
                              | with_reducible exact unhide SX _ (ez1 _ _)
                              | with_reducible exact unhide SX _ (ez2 _ _ _)
                              | with_reducible exact unhide SX _ (ez1D _ _)
                              | with_reducible exact unhide SX _ (ez2D _ _ _)
                              | fail
                          clear hK K
                          try simp only [Act.put, List.setIfInBounds_toArray, List.set_cons_zero, List.set_cons_succ]
                          refine wpAnyH_done (by kernel_rfl) ?_ _
                          refine NoPanic.normal ?_
                          go_wp2_with fail
                          go_meet
                          exact ⟨_, mo, mc, rfl, by first | exact Nat.le_refl _ | omega | fail, mem_end (unhide KC).1 (unhide KC).2 (unhide I2) (unhide F2) (unhide EZ) (by first | exact Nat.le_refl _ | omega | fail) _ _ _⟩
                        exact AllReadyH.nil
                      exact AllReadyH.nil
                    exact AllReadyH.nil
                  exact AllReadyH.nil
                refine AllReadyH.cons rfl (fun K hK => ?_) ?_
                · go_simp
                  refine (unhide LI _).mono ?_
                  rintro e z1 ⟨mo, mc, rfl, i1, b1⟩
                  obtain ⟨F, i1, f1, k1, b1⟩ := lst_arm (wr := wr) (by first | with_reducible exact ez0D wr | with_reducible exact ez1D wr _ | with_reducible exact ez2D wr _ _ | fail) i1 b1
                  have I1 := hide i1
                  have F1 := hide f1
                  have sz1 := b1.size
                  have KB := hide (k1 _ _ (box1D wr boxZ))
                  clear EZ i1 f1 k1
                  have EZ := hide b1
                  clear b1
                  go_wp2_with fail
                  refine hK.out _ _ ?_ (fun hHeld => ?_)
                  · first
                      | with_reducible exact unhide SX _ (unhide EZ)
                      | with_reducible refine (cell_six ?_).trans (unhide SX _ (unhide EZ)); (have := unhide A1W; omega)
                      | with_reducible exact unhide SX _ (below_far (unhide EZ) (ez1 _ _))
                      | with_reducible exact unhide SX _ (below_far (unhide EZ) (ez2 _ _ _))
                      | with_reducible exact unhide SX _ (below_far (unhide EZ) (ez1D _ _))
                      | with_reducible exact unhide SX _ (below_far (unhide EZ) (ez2D _ _ _))
                      | with_reducible exact unhide SX _ (ez1 _ _)
                      | with_reducible exact unhide SX _ (ez2 _ _ _)
                      | with_reducible exact unhide SX _ (ez1D _ _)
                      | with_reducible exact unhide SX _ (ez2D _ _ _)
                      | fail
                  clear hK K
                  try simp only [Act.put, List.setIfInBounds_toArray, List.set_cons_zero, List.set_cons_succ]
                  refine wpAnyH_ready (rs := [0]) (by kernel_rfl) (by simp) ?_
                  refine AllReadyH.cons rfl (fun K hK => ?_) ?_
                  · go_simp
                    refine hK.out _ _ ?_ (fun hHeld => ?_)
                    · first
                        | with_reducible exact unhide SX _ (unhide EZ)
                        | with_reducible refine (cell_six ?_).trans (unhide SX _ (unhide EZ)); (have := unhide A1W; omega)
                        | with_reducible exact unhide SX _ (below_far (unhide EZ) (ez1 _ _))
                        | with_reducible exact unhide SX _ (below_far (unhide EZ) (ez2 _ _ _))
                        | with_reducible exact unhide SX _ (below_far (unhide EZ) (ez1D _ _))
                        | with_reducible exact unhide SX _ (below_far (unhide EZ) (ez2D _ _ _))
                        | with_reducible exact unhide SX _ (ez1 _ _)
                        | with_reducible exact unhide SX _ (ez2 _ _ _)
                        | with_reducible exact unhide SX _ (ez1D _ _)
                        | with_reducible exact unhide SX _ (ez2D _ _ _)
                        | fail
                    clear hK K
                    try simp only [Act.put, List.setIfInBounds_toArray, List.set_cons_zero, List.set_cons_succ]
                    refine wpAnyH_take (i := 6) (v := ?_) rfl (by kernel_rfl) (by kernel_rfl) (by kernel_rfl) (fun _ _ _ h => h) (Or.inl ⟨by rfl, ?_⟩) (by assumption) ?_
                    rotate_left 1
                    · intro Y hY
                      go_simp
                      all_goals with_reducible rfl
                    dsimp only [Act.put]
                    try simp only [List.setIfInBounds_toArray, List.set_cons_zero, List.set_cons_succ]
                    refine wpAnyH_ready (rs := [7]) (by kernel_rfl) (by simp) ?_
                    refine AllReadyH.cons rfl (fun K hK => ?_) ?_
                    · go_simp
                      refine hK.out _ _ ?_ (fun hHeld => ?_)
                      · first
                          | with_reducible exact unhide SX _ (unhide EZ)
                          | with_reducible refine (cell_six ?_).trans (unhide SX _ (unhide EZ)); (have := unhide A1W; omega)
                          | with_reducible exact unhide SX _ (below_far (unhide EZ) (ez1 _ _))
                          | with_reducible exact unhide SX _ (below_far (unhide EZ) (ez2 _ _ _))
                          | with_reducible exact unhide SX _ (below_far (unhide EZ) (ez1D _ _))
                          | with_reducible exact unhide SX _ (below_far (unhide EZ) (ez2D _ _ _))
                          | with_reducible exact unhide SX _ (ez1 _ _)
                          | with_reducible exact unhide SX _ (ez2 _ _ _)
                          | with_reducible exact unhide SX _ (ez1D _ _)
                          | with_reducible exact unhide SX _ (ez2D _ _ _)
                          | fail
                      clear hK K
                      try simp only [Act.put, List.setIfInBounds_toArray, List.set_cons_zero, List.set_cons_succ]
                      refine wpAnyH_take (i := 14) (v := ?_) rfl (by kernel_rfl) (by kernel_rfl) (by kernel_rfl) (fun _ _ _ h => h) (Or.inl ⟨by rfl, ?_⟩) (by assumption) ?_
                      rotate_left 1
                      · intro Y hY
                        go_simp
                        all_goals with_reducible rfl
                      dsimp only [Act.put]
                      try simp only [List.setIfInBounds_toArray, List.set_cons_zero, List.set_cons_succ]
                      refine wpAnyH_ready (rs := [15]) (by kernel_rfl) (by simp) ?_
                      refine AllReadyH.cons rfl (fun K hK => ?_) ?_
                      · go_simp
                        refine (unhide GO _ (by decide) _ _ _).mono ?_
                        rintro e z2 ⟨rfl, b2⟩
                        obtain ⟨i2, f2, k2, k2', n2, e2⟩ := good_arm (wr := wr) (z1 := z1) (by first | with_reducible exact Below.refl _ z1 | with_reducible exact ez1 z1 _ | with_reducible exact ez2 z1 _ _ | fail) b2 (unhide I1) (unhide F1) (unhide EZ)
                        have I2 := hide i2
                        have F2 := hide f2
                        have sz2 := e2.size
                        have KC := hide (And.intro (k2' _ _ (unhide KB).1) (unhide KB).2)
                        obtain ⟨⟨d0, d1, d2, d3, d4, d5⟩, fz⟩ := six_rules (unhide KC).1
                        clear EZ i2 f2 k2 k2' n2 b2
                        have EZ := hide e2
                        clear e2
                        go_wp2_with fail
                        refine hK.out _ _ ?_ (fun hHeld => ?_)
                        · first
                            | with_reducible exact unhide SX _ (unhide EZ)
                            | with_reducible refine (cell_six ?_).trans (unhide SX _ (unhide EZ)); (have := unhide A1W; omega)
                            | with_reducible exact unhide SX _ (below_far (unhide EZ) (ez1 _ _))
                            | with_reducible exact unhide SX _ (below_far (unhide EZ) (ez2 _ _ _))
                            | with_reducible exact unhide SX _ (below_far (unhide EZ) (ez1D _ _))
                            | with_reducible exact unhide SX _ (below_far (unhide EZ) (ez2D _ _ _))
                            | with_reducible exact unhide SX _ (ez1 _ _)
                            | with_reducible exact unhide SX _ (ez2 _ _ _)
                            | with_reducible exact unhide SX _ (ez1D _ _)
                            | with_reducible exact unhide SX _ (ez2D _ _ _)
                            | fail
                        clear hK K
                        try simp only [Act.put, List.setIfInBounds_toArray, List.set_cons_zero, List.set_cons_succ]
                        refine wpAnyH_ready (rs := [17]) (by kernel_rfl) (by simp) ?_
                        refine AllReadyH.cons rfl (fun K hK => ?_) ?_
                        · go_simp
                          refine hK.out _ _ ?_ (fun hHeld => ?_)
                          · first
                              | with_reducible exact unhide SX _ (unhide EZ)
                              | with_reducible refine (cell_six ?_).trans (unhide SX _ (unhide EZ)); (have := unhide A1W; omega)
                              | with_reducible exact unhide SX _ (below_far (unhide EZ) (ez1 _ _))
                              | with_reducible exact unhide SX _ (below_far (unhide EZ) (ez2 _ _ _))
                              | with_reducible exact unhide SX _ (below_far (unhide EZ) (ez1D _ _))
                              | with_reducible exact unhide SX _ (below_far (unhide EZ) (ez2D _ _ _))
                              | with_reducible exact unhide SX _ (ez1 _ _)
                              | with_reducible exact unhide SX _ (ez2 _ _ _)
                              | with_reducible exact unhide SX _ (ez1D _ _)
                              | with_reducible exact unhide SX _ (ez2D _ _ _)
                              | fail
                          clear hK K
                          try simp only [Act.put, List.setIfInBounds_toArray, List.set_cons_zero, List.set_cons_succ]
                          refine wpAnyH_done (by kernel_rfl) ?_ _
                          refine NoPanic.normal ?_
                          go_wp2_with fail
                          go_meet
                          exact ⟨_, mo, mc, rfl, by first | exact Nat.le_refl _ | omega | fail, mem_end (unhide KC).1 (unhide KC).2 (unhide I2) (unhide F2) (unhide EZ) (by first | exact Nat.le_refl _ | omega | fail) _ _ _⟩
                        exact AllReadyH.nil
                      exact AllReadyH.nil
                    exact AllReadyH.nil
                  exact AllReadyH.nil
                exact AllReadyH.nil
              exact AllReadyH.nil
            refine AllReadyH.cons rfl (fun K hK => ?_) ?_
            · go_simp
              refine hK.out _ _ ?_ (fun hHeld => ?_)
              · first
                  | with_reducible exact unhide SX _ (unhide EZ)
                  | with_reducible refine (cell_six ?_).trans (unhide SX _ (unhide EZ)); (have := unhide A1W; omega)
                  | with_reducible exact unhide SX _ (below_far (unhide EZ) (ez1 _ _))
                  | with_reducible exact unhide SX _ (below_far (unhide EZ) (ez2 _ _ _))
                  | with_reducible exact unhide SX _ (below_far (unhide EZ) (ez1D _ _))
                  | with_reducible exact unhide SX _ (below_far (unhide EZ) (ez2D _ _ _))
                  | with_reducible exact unhide SX _ (ez1 _ _)
                  | with_reducible exact unhide SX _ (ez2 _ _ _)
                  | with_reducible exact unhide SX _ (ez1D _ _)
                  | with_reducible exact unhide SX _ (ez2D _ _ _)
                  | fail
              clear hK K
              try simp only [Act.put, List.setIfInBounds_toArray, List.set_cons_zero, List.set_cons_succ]
              refine wpAnyH_ready (rs := [0, 5]) (by kernel_rfl) (by simp) ?_
              refine AllReadyH.cons rfl (fun K hK => ?_) ?_
              · go_simp
                refine hK.out _ _ ?_ (fun hHeld => ?_)
                · first
                    | with_reducible exact unhide SX _ (unhide EZ)
                    | with_reducible refine (cell_six ?_).trans (unhide SX _ (unhide EZ)); (have := unhide A1W; omega)
                    | with_reducible exact unhide SX _ (below_far (unhide EZ) (ez1 _ _))
                    | with_reducible exact unhide SX _ (below_far (unhide EZ) (ez2 _ _ _))
                    | with_reducible exact unhide SX _ (below_far (unhide EZ) (ez1D _ _))
                    | with_reducible exact unhide SX _ (below_far (unhide EZ) (ez2D _ _ _))
                    | with_reducible exact unhide SX _ (ez1 _ _)
                    | with_reducible exact unhide SX _ (ez2 _ _ _)
                    | with_reducible exact unhide SX _ (ez1D _ _)
                    | with_reducible exact unhide SX _ (ez2D _ _ _)
                    | fail
                clear hK K
                try simp only [Act.put, List.setIfInBounds_toArray, List.set_cons_zero, List.set_cons_succ]
                refine wpAnyH_ready (rs := [5]) (by kernel_rfl) (by simp) ?_
                refine AllReadyH.cons rfl (fun K hK => ?_) ?_
                · go_simp
                  refine (unhide WI _).mono ?_
                  rintro e zz ⟨rfl, hw⟩
                  replace hw := hw.symm
                  subst hw
                  go_wp2_with fail
                  refine hK.out _ _ ?_ (fun hHeld => ?_)
                  · first
                      | with_reducible exact unhide SX _ (unhide EZ)
                      | with_reducible refine (cell_six ?_).trans (unhide SX _ (unhide EZ)); (have := unhide A1W; omega)
                      | with_reducible exact unhide SX _ (below_far (unhide EZ) (ez1 _ _))
                      | with_reducible exact unhide SX _ (below_far (unhide EZ) (ez2 _ _ _))
                      | with_reducible exact unhide SX _ (below_far (unhide EZ) (ez1D _ _))
                      | with_reducible exact unhide SX _ (below_far (unhide EZ) (ez2D _ _ _))
                      | with_reducible exact unhide SX _ (ez1 _ _)
                      | with_reducible exact unhide SX _ (ez2 _ _ _)
                      | with_reducible exact unhide SX _ (ez1D _ _)
                      | with_reducible exact unhide SX _ (ez2D _ _ _)
                      | fail
                  clear hK K
                  try simp only [Act.put, List.setIfInBounds_toArray, List.set_cons_zero, List.set_cons_succ]
                  refine wpAnyH_take (i := 6) (v := ?_) rfl (by kernel_rfl) (by kernel_rfl) (by kernel_rfl) (fun _ _ _ h => h) (Or.inl ⟨by rfl, ?_⟩) (by assumption) ?_
                  rotate_left 1
                  · intro Y hY
                    go_simp
                    all_goals with_reducible rfl
                  dsimp only [Act.put]
                  try simp only [List.setIfInBounds_toArray, List.set_cons_zero, List.set_cons_succ]
                  refine wpAnyH_ready (rs := [7, 13]) (by kernel_rfl) (by simp) ?_
                  refine AllReadyH.cons rfl (fun K hK => ?_) ?_
                  · go_simp
                    refine hK.out _ _ ?_ (fun hHeld => ?_)
                    · first
                        | with_reducible exact unhide SX _ (unhide EZ)
                        | with_reducible refine (cell_six ?_).trans (unhide SX _ (unhide EZ)); (have := unhide A1W; omega)
                        | with_reducible exact unhide SX _ (below_far (unhide EZ) (ez1 _ _))
                        | with_reducible exact unhide SX _ (below_far (unhide EZ) (ez2 _ _ _))
                        | with_reducible exact unhide SX _ (below_far (unhide EZ) (ez1D _ _))
                        | with_reducible exact unhide SX _ (below_far (unhide EZ) (ez2D _ _ _))
                        | with_reducible exact unhide SX _ (ez1 _ _)
                        | with_reducible exact unhide SX _ (ez2 _ _ _)
                        | with_reducible exact unhide SX _ (ez1D _ _)
                        | with_reducible exact unhide SX _ (ez2D _ _ _)
                        | fail
                    clear hK K
                    try simp only [Act.put, List.setIfInBounds_toArray, List.set_cons_zero, List.set_cons_succ]
                    refine wpAnyH_ready (rs := [13]) (by kernel_rfl) (by simp) ?_
                    refine AllReadyH.cons rfl (fun K hK => ?_) ?_
                    · go_simp
                      refine (unhide LI _).mono ?_
                      rintro e z1 ⟨mo, mc, rfl, i1, b1⟩
                      obtain ⟨F, i1, f1, k1, b1⟩ := lst_arm (wr := wr) (by first | with_reducible exact ez0D wr | with_reducible exact ez1D wr _ | with_reducible exact ez2D wr _ _ | fail) i1 b1
                      have I1 := hide i1
                      have F1 := hide f1
                      have sz1 := b1.size
                      have KB := hide (k1 _ _ (box2D wr boxZ rowK).1)
                      clear EZ i1 f1 k1
                      have EZ := hide b1
                      clear b1
                      go_wp2_with fail
                      refine hK.out _ _ ?_ (fun hHeld => ?_)
                      · first
                          | with_reducible exact unhide SX _ (unhide EZ)
                          | with_reducible refine (cell_six ?_).trans (unhide SX _ (unhide EZ)); (have := unhide A1W; omega)
                          | with_reducible exact unhide SX _ (below_far (unhide EZ) (ez1 _ _))
                          | with_reducible exact unhide SX _ (below_far (unhide EZ) (ez2 _ _ _))
                          | with_reducible exact unhide SX _ (below_far (unhide EZ) (ez1D _ _))
                          | with_reducible exact unhide SX _ (below_far (unhide EZ) (ez2D _ _ _))
                          | with_reducible exact unhide SX _ (ez1 _ _)
                          | with_reducible exact unhide SX _ (ez2 _ _ _)
                          | with_reducible exact unhide SX _ (ez1D _ _)
                          | with_reducible exact unhide SX _ (ez2D _ _ _)
                          | fail
                      clear hK K
                      try simp only [Act.put, List.setIfInBounds_toArray, List.set_cons_zero, List.set_cons_succ]
                      refine wpAnyH_take (i := 14) (v := ?_) rfl (by kernel_rfl) (by kernel_rfl) (by kernel_rfl) (fun _ _ _ h => h) (Or.inl ⟨by rfl, ?_⟩) (by assumption) ?_
                      rotate_left 1
                      · intro Y hY
                        go_simp
                        all_goals with_reducible rfl
                      dsimp only [Act.put]
                      try simp only [List.setIfInBounds_toArray, List.set_cons_zero, List.set_cons_succ]
                      refine wpAnyH_ready (rs := [15]) (by kernel_rfl) (by simp) ?_
                      refine AllReadyH.cons rfl (fun K hK => ?_) ?_
                      · go_simp
                        refine (unhide GO _ (by decide) _ _ _).mono ?_
                        rintro e z2 ⟨rfl, b2⟩
                        obtain ⟨i2, f2, k2, k2', n2, e2⟩ := good_arm (wr := wr) (z1 := z1) (by first | with_reducible exact Below.refl _ z1 | with_reducible exact ez1 z1 _ | with_reducible exact ez2 z1 _ _ | fail) b2 (unhide I1) (unhide F1) (unhide EZ)
                        have I2 := hide i2
                        have F2 := hide f2
                        have sz2 := e2.size
                        have KC := hide (And.intro (k2' _ _ (unhide KB).1) (unhide KB).2)
                        obtain ⟨⟨d0, d1, d2, d3, d4, d5⟩, fz⟩ := six_rules (unhide KC).1
                        clear EZ i2 f2 k2 k2' n2 b2
                        have EZ := hide e2
                        clear e2
                        go_wp2_with fail
                        refine hK.out _ _ ?_ (fun hHeld => ?_)
                        · first
                            | with_reducible exact unhide SX _ (unhide EZ)
                            | with_reducible refine (cell_six ?_).trans (unhide SX _ (unhide EZ)); (have := unhide A1W; omega)
                            | with_reducible exact unhide SX _ (below_far (unhide EZ) (ez1 _ _))
                            | with_reducible exact unhide SX _ (below_far (unhide EZ) (ez2 _ _ _))
                            | with_reducible exact unhide SX _ (below_far (unhide EZ) (ez1D _ _))
                            | with_reducible exact unhide SX _ (below_far (unhide EZ) (ez2D _ _ _))
                            | with_reducible exact unhide SX _ (ez1 _ _)
                            | with_reducible exact unhide SX _ (ez2 _ _ _)
                            | with_reducible exact unhide SX _ (ez1D _ _)
                            | with_reducible exact unhide SX _ (ez2D _ _ _)
                            | fail
                        clear hK K
                        try simp only [Act.put, List.setIfInBounds_toArray, List.set_cons_zero, List.set_cons_succ]
                        refine wpAnyH_ready (rs := [17]) (by kernel_rfl) (by simp) ?_
                        refine AllReadyH.cons rfl (fun K hK => ?_) ?_
                        · go_simp
                          refine hK.out _ _ ?_ (fun hHeld => ?_)
                          · first
                              | with_reducible exact unhide SX _ (unhide EZ)
                              | with_reducible refine (cell_six ?_).trans (unhide SX _ (unhide EZ)); (have := unhide A1W; omega)
                              | with_reducible exact unhide SX _ (below_far (unhide EZ) (ez1 _ _))
                              | with_reducible exact unhide SX _ (below_far (unhide EZ) (ez2 _ _ _))
                              | with_reducible exact unhide SX _ (below_far (unhide EZ) (ez1D _ _))
                              | with_reducible exact unhide SX _ (below_far (unhide EZ) (ez2D _ _ _))
                              | with_reducible exact unhide SX _ (ez1 _ _)
                              | with_reducible exact unhide SX _ (ez2 _ _ _)
                              | with_reducible exact unhide SX _ (ez1D _ _)
                              | with_reducible exact unhide SX _ (ez2D _ _ _)
                              | fail
                          clear hK K
                          try simp only [Act.put, List.setIfInBounds_toArray, List.set_cons_zero, List.set_cons_succ]
                          refine wpAnyH_done (by kernel_rfl) ?_ _
                          refine NoPanic.normal ?_
                          go_wp2_with fail
                          go_meet
                          exact ⟨_, mo, mc, rfl, by first | exact Nat.le_refl _ | omega | fail, mem_end (unhide KC).1 (unhide KC).2 (unhide I2) (unhide F2) (unhide EZ) (by first | exact Nat.le_refl _ | omega | fail) _ _ _⟩
                        exact AllReadyH.nil
                      exact AllReadyH.nil
                    exact AllReadyH.nil
                  refine AllReadyH.cons rfl (fun K hK => ?_) ?_
                  · go_simp
                    refine (unhide LI _).mono ?_
                    rintro e z1 ⟨mo, mc, rfl, i1, b1⟩
                    obtain ⟨F, i1, f1, k1, b1⟩ := lst_arm (wr := wr) (by first | with_reducible exact ez0D wr | with_reducible exact ez1D wr _ | with_reducible exact ez2D wr _ _ | fail) i1 b1
                    have I1 := hide i1
                    have F1 := hide f1
                    have sz1 := b1.size
                    have KB := hide (k1 _ _ (box2D wr boxZ rowK).1)
                    have RR := (k1 _ _ (box2D wr boxZ rowK).2).1
                    obtain ⟨r0, r1, r2⟩ := row_rules RR
                    have ra := fun o => (row_rules (Below.stay (ez1 z1 o) RR)).1
                    have rb := fun o => (row_rules (Below.stay (ez1 z1 o) RR)).2.1
                    have rc := fun o => (row_rules (Below.stay (ez1 z1 o) RR)).2.2
                    clear RR
                    clear EZ i1 f1 k1
                    have EZ := hide b1
                    clear b1
                    go_wp2_with fail
                    refine hK.out _ _ ?_ (fun hHeld => ?_)
                    · first
                        | with_reducible exact unhide SX _ (unhide EZ)
                        | with_reducible refine (cell_six ?_).trans (unhide SX _ (unhide EZ)); (have := unhide A1W; omega)
                        | with_reducible exact unhide SX _ (below_far (unhide EZ) (ez1 _ _))
                        | with_reducible exact unhide SX _ (below_far (unhide EZ) (ez2 _ _ _))
                        | with_reducible exact unhide SX _ (below_far (unhide EZ) (ez1D _ _))
                        | with_reducible exact unhide SX _ (below_far (unhide EZ) (ez2D _ _ _))
                        | with_reducible exact unhide SX _ (ez1 _ _)
                        | with_reducible exact unhide SX _ (ez2 _ _ _)
                        | with_reducible exact unhide SX _ (ez1D _ _)
                        | with_reducible exact unhide SX _ (ez2D _ _ _)
                        | fail
                    clear hK K
                    try simp only [Act.put, List.setIfInBounds_toArray, List.set_cons_zero, List.set_cons_succ]
                    refine wpAnyH_ready (rs := [7]) (by kernel_rfl) (by simp) ?_
                    refine AllReadyH.cons rfl (fun K hK => ?_) ?_
                    · go_simp
                      refine hK.out _ _ ?_ (fun hHeld => ?_)
                      · first
                          | with_reducible exact unhide SX _ (unhide EZ)
                          | with_reducible refine (cell_six ?_).trans (unhide SX _ (unhide EZ)); (have := unhide A1W; omega)
                          | with_reducible exact unhide SX _ (below_far (unhide EZ) (ez1 _ _))
                          | with_reducible exact unhide SX _ (below_far (unhide EZ) (ez2 _ _ _))
                          | with_reducible exact unhide SX _ (below_far (unhide EZ) (ez1D _ _))
                          | with_reducible exact unhide SX _ (below_far (unhide EZ) (ez2D _ _ _))
                          | with_reducible exact unhide SX _ (ez1 _ _)
                          | with_reducible exact unhide SX _ (ez2 _ _ _)
                          | with_reducible exact unhide SX _ (ez1D _ _)
                          | with_reducible exact unhide SX _ (ez2D _ _ _)
                          | fail
                      clear hK K
                      try simp only [Act.put, List.setIfInBounds_toArray, List.set_cons_zero, List.set_cons_succ]
                      refine wpAnyH_take (i := 14) (v := ?_) rfl (by kernel_rfl) (by kernel_rfl) (by kernel_rfl) (fun _ _ _ h => h) (Or.inl ⟨by rfl, ?_⟩) (by assumption) ?_
                      rotate_left 1
                      · intro Y hY
                        go_simp
                        all_goals with_reducible rfl
                      dsimp only [Act.put]
                      try simp only [List.setIfInBounds_toArray, List.set_cons_zero, List.set_cons_succ]
                      refine wpAnyH_ready (rs := [15]) (by kernel_rfl) (by simp) ?_
                      refine AllReadyH.cons rfl (fun K hK => ?_) ?_
                      · go_simp
                        refine (unhide GO _ (by decide) _ _ _).mono ?_
                        rintro e z2 ⟨rfl, b2⟩
                        obtain ⟨i2, f2, k2, k2', n2, e2⟩ := good_arm (wr := wr) (z1 := z1) (by first | with_reducible exact Below.refl _ z1 | with_reducible exact ez1 z1 _ | with_reducible exact ez2 z1 _ _ | fail) b2 (unhide I1) (unhide F1) (unhide EZ)
                        have I2 := hide i2
                        have F2 := hide f2
                        have sz2 := e2.size
                        have KC := hide (And.intro (k2' _ _ (unhide KB).1) (unhide KB).2)
                        obtain ⟨⟨d0, d1, d2, d3, d4, d5⟩, fz⟩ := six_rules (unhide KC).1
                        clear EZ i2 f2 k2 k2' n2 b2
                        have EZ := hide e2
                        clear e2
                        go_wp2_with fail
                        refine hK.out _ _ ?_ (fun hHeld => ?_)
                        · first
                            | with_reducible exact unhide SX _ (unhide EZ)
                            | with_reducible refine (cell_six ?_).trans (unhide SX _ (unhide EZ)); (have := unhide A1W; omega)
                            | with_reducible exact unhide SX _ (below_far (unhide EZ) (ez1 _ _))
                            | with_reducible exact unhide SX _ (below_far (unhide EZ) (ez2 _ _ _))
                            | with_reducible exact unhide SX _ (below_far (unhide EZ) (ez1D _ _))
                            | with_reducible exact unhide SX _ (below_far (unhide EZ) (ez2D _ _ _))
                            | with_reducible exact unhide SX _ (ez1 _ _)
                            | with_reducible exact unhide SX _ (ez2 _ _ _)
                            | with_reducible exact unhide SX _ (ez1D _ _)
                            | with_reducible exact unhide SX _ (ez2D _ _ _)
                            | fail
                        clear hK K
                        try simp only [Act.put, List.setIfInBounds_toArray, List.set_cons_zero, List.set_cons_succ]
                        refine wpAnyH_ready (rs := [17]) (by kernel_rfl) (by simp) ?_
                        refine AllReadyH.cons rfl (fun K hK => ?_) ?_
                        · go_simp
                          refine hK.out _ _ ?_ (fun hHeld => ?_)
                          · first
                              | with_reducible exact unhide SX _ (unhide EZ)
                              | with_reducible refine (cell_six ?_).trans (unhide SX _ (unhide EZ)); (have := unhide A1W; omega)
                              | with_reducible exact unhide SX _ (below_far (unhide EZ) (ez1 _ _))
                              | with_reducible exact unhide SX _ (below_far (unhide EZ) (ez2 _ _ _))
                              | with_reducible exact unhide SX _ (below_far (unhide EZ) (ez1D _ _))
                              | with_reducible exact unhide SX _ (below_far (unhide EZ) (ez2D _ _ _))
                              | with_reducible exact unhide SX _ (ez1 _ _)
                              | with_reducible exact unhide SX _ (ez2 _ _ _)
                              | with_reducible exact unhide SX _ (ez1D _ _)
                              | with_reducible exact unhide SX _ (ez2D _ _ _)
                              | fail
                          clear hK K
                          try simp only [Act.put, List.setIfInBounds_toArray, List.set_cons_zero, List.set_cons_succ]
                          refine wpAnyH_done (by kernel_rfl) ?_ _
                          refine NoPanic.normal ?_
                          go_wp2_with fail
                          go_meet
                          exact ⟨_, mo, mc, rfl, by first | exact Nat.le_refl _ | omega | fail, mem_end (unhide KC).1 (unhide KC).2 (unhide I2) (unhide F2) (unhide EZ) (by first | exact Nat.le_refl _ | omega | fail) _ _ _⟩
                        exact AllReadyH.nil
                      exact AllReadyH.nil
                    exact AllReadyH.nil
                  exact AllReadyH.nil
                exact AllReadyH.nil
              refine AllReadyH.cons rfl (fun K hK => ?_) ?_
              · go_simp
                refine (unhide WI _).mono ?_
                rintro e zz ⟨rfl, hw⟩
                replace hw := hw.symm
                subst hw
                go_wp2_with fail
                refine hK.out _ _ ?_ (fun hHeld => ?_)
                · first
                    | with_reducible exact unhide SX _ (unhide EZ)
                    | with_reducible refine (cell_six ?_).trans (unhide SX _ (unhide EZ)); (have := unhide A1W; omega)
                    | with_reducible exact unhide SX _ (below_far (unhide EZ) (ez1 _ _))
                    | with_reducible exact unhide SX _ (below_far (unhide EZ) (ez2 _ _ _))
                    | with_reducible exact unhide SX _ (below_far (unhide EZ) (ez1D _ _))
                    | with_reducible exact unhide SX _ (below_far (unhide EZ) (ez2D _ _ _))
                    | with_reducible exact unhide SX _ (ez1 _ _)
                    | with_reducible exact unhide SX _ (ez2 _ _ _)
                    | with_reducible exact unhide SX _ (ez1D _ _)
                    | with_reducible exact unhide SX _ (ez2D _ _ _)
                    | fail
                clear hK K
                try simp only [Act.put, List.setIfInBounds_toArray, List.set_cons_zero, List.set_cons_succ]
                refine wpAnyH_ready (rs := [0, 13]) (by kernel_rfl) (by simp) ?_
                refine AllReadyH.cons rfl (fun K hK => ?_) ?_
                · go_simp
                  refine hK.out _ _ ?_ (fun hHeld => ?_)
                  · first
                      | with_reducible exact unhide SX _ (unhide EZ)
                      | with_reducible refine (cell_six ?_).trans (unhide SX _ (unhide EZ)); (have := unhide A1W; omega)
                      | with_reducible exact unhide SX _ (below_far (unhide EZ) (ez1 _ _))
                      | with_reducible exact unhide SX _ (below_far (unhide EZ) (ez2 _ _ _))
                      | with_reducible exact unhide SX _ (below_far (unhide EZ) (ez1D _ _))
                      | with_reducible exact unhide SX _ (below_far (unhide EZ) (ez2D _ _ _))
                      | with_reducible exact unhide SX _ (ez1 _ _)
                      | with_reducible exact unhide SX _ (ez2 _ _ _)
                      | with_reducible exact unhide SX _ (ez1D _ _)
                      | with_reducible exact unhide SX _ (ez2D _ _ _)
                      | fail
                  clear hK K
                  try simp only [Act.put, List.setIfInBounds_toArray, List.set_cons_zero, List.set_cons_succ]
                  refine wpAnyH_take (i := 6) (v := ?_) rfl (by kernel_rfl) (by kernel_rfl) (by kernel_rfl) (fun _ _ _ h => h) (Or.inl ⟨by rfl, ?_⟩) (by assumption) ?_
                  rotate_left 1
                  · intro Y hY
                    go_simp
                    all_goals with_reducible rfl
                  dsimp only [Act.put]
                  try simp only [List.setIfInBounds_toArray, List.set_cons_zero, List.set_cons_succ]
                  refine wpAnyH_ready (rs := [7, 13]) (by kernel_rfl) (by simp) ?_
                  refine AllReadyH.cons rfl (fun K hK => ?_) ?_
                  · go_simp
                    refine hK.out _ _ ?_ (fun hHeld => ?_)
                    · first
                        | with_reducible exact unhide SX _ (unhide EZ)
                        | with_reducible refine (cell_six ?_).trans (unhide SX _ (unhide EZ)); (have := unhide A1W; omega)
                        | with_reducible exact unhide SX _ (below_far (unhide EZ) (ez1 _ _))
                        | with_reducible exact unhide SX _ (below_far (unhide EZ) (ez2 _ _ _))
                        | with_reducible exact unhide SX _ (below_far (unhide EZ) (ez1D _ _))
                        | with_reducible exact unhide SX _ (below_far (unhide EZ) (ez2D _ _ _))
                        | with_reducible exact unhide SX _ (ez1 _ _)
                        | with_reducible exact unhide SX _ (ez2 _ _ _)
                        | with_reducible exact unhide SX _ (ez1D _ _)
                        | with_reducible exact unhide SX _ (ez2D _ _ _)
                        | fail
                    clear hK K
                    try simp only [Act.put, List.setIfInBounds_toArray, List.set_cons_zero, List.set_cons_succ]
                    refine wpAnyH_ready (rs := [13]) (by kernel_rfl) (by simp) ?_
                    refine AllReadyH.cons rfl (fun K hK => ?_) ?_
                    · go_simp
                      refine (unhide LI _).mono ?_
                      rintro e z1 ⟨mo, mc, rfl, i1, b1⟩
                      obtain ⟨F, i1, f1, k1, b1⟩ := lst_arm (wr := wr) (by first | with_reducible exact ez0D wr | with_reducible exact ez1D wr _ | with_reducible exact ez2D wr _ _ | fail) i1 b1
                      have I1 := hide i1
                      have F1 := hide f1
                      have sz1 := b1.size
                      have KB := hide (k1 _ _ (box2D wr boxZ rowK).1)
                      clear EZ i1 f1 k1
                      have EZ := hide b1
                      clear b1
                      go_wp2_with fail
                      refine hK.out _ _ ?_ (fun hHeld => ?_)
                      · first
                          | with_reducible exact unhide SX _ (unhide EZ)
                          | with_reducible refine (cell_six ?_).trans (unhide SX _ (unhide EZ)); (have := unhide A1W; omega)
                          | with_reducible exact unhide SX _ (below_far (unhide EZ) (ez1 _ _))
                          | with_reducible exact unhide SX _ (below_far (unhide EZ) (ez2 _ _ _))
                          | with_reducible exact unhide SX _ (below_far (unhide EZ) (ez1D _ _))
                          | with_reducible exact unhide SX _ (below_far (unhide EZ) (ez2D _ _ _))
                          | with_reducible exact unhide SX _ (ez1 _ _)
                          | with_reducible exact unhide SX _ (ez2 _ _ _)
                          | with_reducible exact unhide SX _ (ez1D _ _)
                          | with_reducible exact unhide SX _ (ez2D _ _ _)
                          | fail
                      clear hK K
                      try simp only [Act.put, List.setIfInBounds_toArray, List.set_cons_zero, List.set_cons_succ]
                      refine wpAnyH_take (i := 14) (v := ?_) rfl (by kernel_rfl) (by kernel_rfl) (by kernel_rfl) (fun _ _ _ h => h) (Or.inl ⟨by rfl, ?_⟩) (by assumption) ?_
                      rotate_left 1
                      · intro Y hY
                        go_simp
                        all_goals with_reducible rfl
                      dsimp only [Act.put]
                      try simp only [List.setIfInBounds_toArray, List.set_cons_zero, List.set_cons_succ]
                      refine wpAnyH_ready (rs := [15]) (by kernel_rfl) (by simp) ?_
                      refine AllReadyH.cons rfl (fun K hK => ?_) ?_
                      · go_simp
                        refine (unhide GO _ (by decide) _ _ _).mono ?_
                        rintro e z2 ⟨rfl, b2⟩
                        obtain ⟨i2, f2, k2, k2', n2, e2⟩ := good_arm (wr := wr) (z1 := z1) (by first | with_reducible exact Below.refl _ z1 | with_reducible exact ez1 z1 _ | with_reducible exact ez2 z1 _ _ | fail) b2 (unhide I1) (unhide F1) (unhide EZ)
                        have I2 := hide i2
                        have F2 := hide f2
                        have sz2 := e2.size
                        have KC := hide (And.intro (k2' _ _ (unhide KB).1) (unhide KB).2)
                        obtain ⟨⟨d0, d1, d2, d3, d4, d5⟩, fz⟩ := six_rules (unhide KC).1
                        clear EZ i2 f2 k2 k2' n2 b2
                        have EZ := hide e2
                        clear e2
                        go_wp2_with fail
                        refine hK.out _ _ ?_ (fun hHeld => ?_)
                        · first
                            | with_reducible exact unhide SX _ (unhide EZ)
                            | with_reducible refine (cell_six ?_).trans (unhide SX _ (unhide EZ)); (have := unhide A1W; omega)
                            | with_reducible exact unhide SX _ (below_far (unhide EZ) (ez1 _ _))
                            | with_reducible exact unhide SX _ (below_far (unhide EZ) (ez2 _ _ _))
                            | with_reducible exact unhide SX _ (below_far (unhide EZ) (ez1D _ _))
                            | with_reducible exact unhide SX _ (below_far (unhide EZ) (ez2D _ _ _))
                            | with_reducible exact unhide SX _ (ez1 _ _)
                            | with_reducible exact unhide SX _ (ez2 _ _ _)
                            | with_reducible exact unhide SX _ (ez1D _ _)
                            | with_reducible exact unhide SX _ (ez2D _ _ _)
                            | fail
                        clear hK K
                        try simp only [Act.put, List.setIfInBounds_toArray, List.set_cons_zero, List.set_cons_succ]
                        refine wpAnyH_ready (rs := [17]) (by kernel_rfl) (by simp) ?_
                        refine AllReadyH.cons rfl (fun K hK => ?_) ?_
                        · go_simp
                          refine hK.out _ _ ?_ (fun hHeld => ?_)
                          · first
                              | with_reducible exact unhide SX _ (unhide EZ)
                              | with_reducible refine (cell_six ?_).trans (unhide SX _ (unhide EZ)); (have := unhide A1W; omega)
                              | with_reducible exact unhide SX _ (below_far (unhide EZ) (ez1 _ _))
                              | with_reducible exact unhide SX _ (below_far (unhide EZ) (ez2 _ _ _))
                              | with_reducible exact unhide SX _ (below_far (unhide EZ) (ez1D _ _))
                              | with_reducible exact unhide SX _ (below_far (unhide EZ) (ez2D _ _ _))
                              | with_reducible exact unhide SX _ (ez1 _ _)
                              | with_reducible exact unhide SX _ (ez2 _ _ _)
                              | with_reducible exact unhide SX _ (ez1D _ _)
                              | with_reducible exact unhide SX _ (ez2D _ _ _)
                              | fail
                          clear hK K
                          try simp only [Act.put, List.setIfInBounds_toArray, List.set_cons_zero, List.set_cons_succ]
                          refine wpAnyH_done (by kernel_rfl) ?_ _
                          refine NoPanic.normal ?_
                          go_wp2_with fail
                          go_meet
                          exact ⟨_, mo, mc, rfl, by first | exact Nat.le_refl _ | omega | fail, mem_end (unhide KC).1 (unhide KC).2 (unhide I2) (unhide F2) (unhide EZ) (by first | exact Nat.le_refl _ | omega | fail) _ _ _⟩
                        exact AllReadyH.nil
                      exact AllReadyH.nil
                    exact AllReadyH.nil
                  refine AllReadyH.cons rfl (fun K hK => ?_) ?_
                  · go_simp
                    refine (unhide LI _).mono ?_
                    rintro e z1 ⟨mo, mc, rfl, i1, b1⟩
                    obtain ⟨F, i1, f1, k1, b1⟩ := lst_arm (wr := wr) (by first | with_reducible exact ez0D wr | with_reducible exact ez1D wr _ | with_reducible exact ez2D wr _ _ | fail) i1 b1
                    have I1 := hide i1
                    have F1 := hide f1
                    have sz1 := b1.size
                    have KB := hide (k1 _ _ (box2D wr boxZ rowK).1)
                    have RR := (k1 _ _ (box2D wr boxZ rowK).2).1
                    obtain ⟨r0, r1, r2⟩ := row_rules RR
                    have ra := fun o => (row_rules (Below.stay (ez1 z1 o) RR)).1
                    have rb := fun o => (row_rules (Below.stay (ez1 z1 o) RR)).2.1
                    have rc := fun o => (row_rules (Below.stay (ez1 z1 o) RR)).2.2
                    clear RR
                    clear EZ i1 f1 k1
                    have EZ := hide b1
                    clear b1
                    go_wp2_with fail
                    refine hK.out _ _ ?_ (fun hHeld => ?_)
                    · first
                        | with_reducible exact unhide SX _ (unhide EZ)
                        | with_reducible refine (cell_six ?_).trans (unhide SX _ (unhide EZ)); (have := unhide A1W; omega)
                        | with_reducible exact unhide SX _ (below_far (unhide EZ) (ez1 _ _))
                        | with_reducible exact unhide SX _ (below_far (unhide EZ) (ez2 _ _ _))
                        | with_reducible exact unhide SX _ (below_far (unhide EZ) (ez1D _ _))
                        | with_reducible exact unhide SX _ (below_far (unhide EZ) (ez2D _ _ _))
                        | with_reducible exact unhide SX _ (ez1 _ _)
                        | with_reducible exact unhide SX _ (ez2 _ _ _)
                        | with_reducible exact unhide SX _ (ez1D _ _)
                        | with_reducible exact unhide SX _ (ez2D _ _ _)
                        | fail
                    clear hK K
                    try simp only [Act.put, List.setIfInBounds_toArray, List.set_cons_zero, List.set_cons_succ]
                    refine wpAnyH_ready (rs := [7]) (by kernel_rfl) (by simp) ?_
                    refine AllReadyH.cons rfl (fun K hK => ?_) ?_
                    · go_simp
                      refine hK.out _ _ ?_ (fun hHeld => ?_)
                      · first
                          | with_reducible exact unhide SX _ (unhide EZ)
                          | with_reducible refine (cell_six ?_).trans (unhide SX _ (unhide EZ)); (have := unhide A1W; omega)
                          | with_reducible exact unhide SX _ (below_far (unhide EZ) (ez1 _ _))
                          | with_reducible exact unhide SX _ (below_far (unhide EZ) (ez2 _ _ _))
                          | with_reducible exact unhide SX _ (below_far (unhide EZ) (ez1D _ _))
                          | with_reducible exact unhide SX _ (below_far (unhide EZ) (ez2D _ _ _))
                          | with_reducible exact unhide SX _ (ez1 _ _)
                          | with_reducible exact unhide SX _ (ez2 _ _ _)
                          | with_reducible exact unhide SX _ (ez1D _ _)
                          | with_reducible exact unhide SX _ (ez2D _ _ _)
                          | fail
                      clear hK K
                      try simp only [Act.put, List.setIfInBounds_toArray, List.set_cons_zero, List.set_cons_succ]
                      refine wpAnyH_take (i := 14) (v := ?_) rfl (by kernel_rfl) (by kernel_rfl) (by kernel_rfl) (fun _ _ _ h => h) (Or.inl ⟨by rfl, ?_⟩) (by assumption) ?_
                      rotate_left 1
                      · intro Y hY
                        go_simp
                        all_goals with_reducible rfl
                      dsimp only [Act.put]
                      try simp only [List.setIfInBounds_toArray, List.set_cons_zero, List.set_cons_succ]
                      refine wpAnyH_ready (rs := [15]) (by kernel_rfl) (by simp) ?_
                      refine AllReadyH.cons rfl (fun K hK => ?_) ?_
                      · go_simp
                        refine (unhide GO _ (by decide) _ _ _).mono ?_
                        rintro e z2 ⟨rfl, b2⟩
                        obtain ⟨i2, f2, k2, k2', n2, e2⟩ := good_arm (wr := wr) (z1 := z1) (by first | with_reducible exact Below.refl _ z1 | with_reducible exact ez1 z1 _ | with_reducible exact ez2 z1 _ _ | fail) b2 (unhide I1) (unhide F1) (unhide EZ)
                        have I2 := hide i2
                        have F2 := hide f2
                        have sz2 := e2.size
                        have KC := hide (And.intro (k2' _ _ (unhide KB).1) (unhide KB).2)
                        obtain ⟨⟨d0, d1, d2, d3, d4, d5⟩, fz⟩ := six_rules (unhide KC).1
                        clear EZ i2 f2 k2 k2' n2 b2
                        have EZ := hide e2
                        clear e2
                        go_wp2_with fail
                        refine hK.out _ _ ?_ (fun hHeld => ?_)
                        · first
                            | with_reducible exact unhide SX _ (unhide EZ)
                            | with_reducible refine (cell_six ?_).trans (unhide SX _ (unhide EZ)); (have := unhide A1W; omega)
                            | with_reducible exact unhide SX _ (below_far (unhide EZ) (ez1 _ _))
                            | with_reducible exact unhide SX _ (below_far (unhide EZ) (ez2 _ _ _))
                            | with_reducible exact unhide SX _ (below_far (unhide EZ) (ez1D _ _))
                            | with_reducible exact unhide SX _ (below_far (unhide EZ) (ez2D _ _ _))
                            | with_reducible exact unhide SX _ (ez1 _ _)
                            | with_reducible exact unhide SX _ (ez2 _ _ _)
                            | with_reducible exact unhide SX _ (ez1D _ _)
                            | with_reducible exact unhide SX _ (ez2D _ _ _)
                            | fail
                        clear hK K
                        try simp only [Act.put, List.setIfInBounds_toArray, List.set_cons_zero, List.set_cons_succ]
                        refine wpAnyH_ready (rs := [17]) (by kernel_rfl) (by simp) ?_
                        refine AllReadyH.cons rfl (fun K hK => ?_) ?_
                        · go_simp
                          refine hK.out _ _ ?_ (fun hHeld => ?_)
                          · first
                              | with_reducible exact unhide SX _ (unhide EZ)
                              | with_reducible refine (cell_six ?_).trans (unhide SX _ (unhide EZ)); (have := unhide A1W; omega)
                              | with_reducible exact unhide SX _ (below_far (unhide EZ) (ez1 _ _))
                              | with_reducible exact unhide SX _ (below_far (unhide EZ) (ez2 _ _ _))
                              | with_reducible exact unhide SX _ (below_far (unhide EZ) (ez1D _ _))
                              | with_reducible exact unhide SX _ (below_far (unhide EZ) (ez2D _ _ _))
                              | with_reducible exact unhide SX _ (ez1 _ _)
                              | with_reducible exact unhide SX _ (ez2 _ _ _)
                              | with_reducible exact unhide SX _ (ez1D _ _)
                              | with_reducible exact unhide SX _ (ez2D _ _ _)
                              | fail
                          clear hK K
                          try simp only [Act.put, List.setIfInBounds_toArray, List.set_cons_zero, List.set_cons_succ]
                          refine wpAnyH_done (by kernel_rfl) ?_ _
                          refine NoPanic.normal ?_
                          go_wp2_with fail
                          go_meet
                          exact ⟨_, mo, mc, rfl, by first | exact Nat.le_refl _ | omega | fail, mem_end (unhide KC).1 (unhide KC).2 (unhide I2) (unhide F2) (unhide EZ) (by first | exact Nat.le_refl _ | omega | fail) _ _ _⟩
                        exact AllReadyH.nil
                      exact AllReadyH.nil
                    exact AllReadyH.nil
                  exact AllReadyH.nil
                refine AllReadyH.cons rfl (fun K hK => ?_) ?_
                · go_simp
                  refine (unhide LI _).mono ?_
                  rintro e z1 ⟨mo, mc, rfl, i1, b1⟩
                  obtain ⟨F, i1, f1, k1, b1⟩ := lst_arm (wr := wr) (by first | with_reducible exact ez0D wr | with_reducible exact ez1D wr _ | with_reducible exact ez2D wr _ _ | fail) i1 b1
                  have I1 := hide i1
                  have F1 := hide f1
                  have sz1 := b1.size
                  have KB := hide (k1 _ _ (box1D wr boxZ))
                  clear EZ i1 f1 k1
                  have EZ := hide b1
                  clear b1
                  go_wp2_with fail
                  refine hK.out _ _ ?_ (fun hHeld => ?_)
                  · first
                      | with_reducible exact unhide SX _ (unhide EZ)
                      | with_reducible refine (cell_six ?_).trans (unhide SX _ (unhide EZ)); (have := unhide A1W; omega)
                      | with_reducible exact unhide SX _ (below_far (unhide EZ) (ez1 _ _))
                      | with_reducible exact unhide SX _ (below_far (unhide EZ) (ez2 _ _ _))
                      | with_reducible exact unhide SX _ (below_far (unhide EZ) (ez1D _ _))
                      | with_reducible exact unhide SX _ (below_far (unhide EZ) (ez2D _ _ _))
                      | with_reducible exact unhide SX _ (ez1 _ _)
                      | with_reducible exact unhide SX _ (ez2 _ _ _)
                      | with_reducible exact unhide SX _ (ez1D _ _)
                      | with_reducible exact unhide SX _ (ez2D _ _ _)
                      | fail
                  clear hK K
                  try simp only [Act.put, List.setIfInBounds_toArray, List.set_cons_zero, List.set_cons_succ]
                  refine wpAnyH_ready (rs := [0]) (by kernel_rfl) (by simp) ?_
                  refine AllReadyH.cons rfl (fun K hK => ?_) ?_
                  · go_simp
                    refine hK.out _ _ ?_ (fun hHeld => ?_)
                    · first
                        | with_reducible exact unhide SX _ (unhide EZ)
                        | with_reducible refine (cell_six ?_).trans (unhide SX _ (unhide EZ)); (have := unhide A1W; omega)
                        | with_reducible exact unhide SX _ (below_far (unhide EZ) (ez1 _ _))
                        | with_reducible exact unhide SX _ (below_far (unhide EZ) (ez2 _ _ _))
                        | with_reducible exact unhide SX _ (below_far (unhide EZ) (ez1D _ _))
                        | with_reducible exact unhide SX _ (below_far (unhide EZ) (ez2D _ _ _))
                        | with_reducible exact unhide SX _ (ez1 _ _)
                        | with_reducible exact unhide SX _ (ez2 _ _ _)
                        | with_reducible exact unhide SX _ (ez1D _ _)
                        | with_reducible exact unhide SX _ (ez2D _ _ _)
                        | fail
                    clear hK K
                    try simp only [Act.put, List.setIfInBounds_toArray, List.set_cons_zero, List.set_cons_succ]
                    refine wpAnyH_take (i := 6) (v := ?_) rfl (by kernel_rfl) (by kernel_rfl) (by kernel_rfl) (fun _ _ _ h => h) (Or.inl ⟨by rfl, ?_⟩) (by assumption) ?_
                    rotate_left 1
                    · intro Y hY
                      go_simp
                      all_goals with_reducible rfl
                    dsimp only [Act.put]
                    try simp only [List.setIfInBounds_toArray, List.set_cons_zero, List.set_cons_succ]
                    refine wpAnyH_ready (rs := [7]) (by kernel_rfl) (by simp) ?_
                    refine AllReadyH.cons rfl (fun K hK => ?_) ?_
                    · go_simp
                      refine hK.out _ _ ?_ (fun hHeld => ?_)
                      · first
                          | with_reducible exact unhide SX _ (unhide EZ)
                          | with_reducible refine (cell_six ?_).trans (unhide SX _ (unhide EZ)); (have := unhide A1W; omega)
                          | with_reducible exact unhide SX _ (below_far (unhide EZ) (ez1 _ _))
                          | with_reducible exact unhide SX _ (below_far (unhide EZ) (ez2 _ _ _))
                          | with_reducible exact unhide SX _ (below_far (unhide EZ) (ez1D _ _))
                          | with_reducible exact unhide SX _ (below_far (unhide EZ) (ez2D _ _ _))
                          | with_reducible exact unhide SX _ (ez1 _ _)
                          | with_reducible exact unhide SX _ (ez2 _ _ _)
                          | with_reducible exact unhide SX _ (ez1D _ _)
                          | with_reducible exact unhide SX _ (ez2D _ _ _)
                          | fail
                      clear hK K
                      try simp only [Act.put, List.setIfInBounds_toArray, List.set_cons_zero, List.set_cons_succ]
                      refine wpAnyH_take (i := 14) (v := ?_) rfl (by kernel_rfl) (by kernel_rfl) (by kernel_rfl) (fun _ _ _ h => h) (Or.inl ⟨by rfl, ?_⟩) (by assumption) ?_
                      rotate_left 1
                      · intro Y hY
                        go_simp
                        all_goals with_reducible rfl
                      dsimp only [Act.put]
                      try simp only [List.setIfInBounds_toArray, List.set_cons_zero, List.set_cons_succ]
                      refine wpAnyH_ready (rs := [15]) (by kernel_rfl) (by simp) ?_
                      refine AllReadyH.cons rfl (fun K hK => ?_) ?_
                      · go_simp
                        refine (unhide GO _ (by decide) _ _ _).mono ?_
                        rintro e z2 ⟨rfl, b2⟩
                        obtain ⟨i2, f2, k2, k2', n2, e2⟩ := good_arm (wr := wr) (z1 := z1) (by first | with_reducible exact Below.refl _ z1 | with_reducible exact ez1 z1 _ | with_reducible exact ez2 z1 _ _ | fail) b2 (unhide I1) (unhide F1) (unhide EZ)
                        have I2 := hide i2
                        have F2 := hide f2
                        have sz2 := e2.size
                        have KC := hide (And.intro (k2' _ _ (unhide KB).1) (unhide KB).2)
                        obtain ⟨⟨d0, d1, d2, d3, d4, d5⟩, fz⟩ := six_rules (unhide KC).1
                        clear EZ i2 f2 k2 k2' n2 b2
                        have EZ := hide e2
                        clear e2
                        go_wp2_with fail
                        refine hK.out _ _ ?_ (fun hHeld => ?_)
                        · first
                            | with_reducible exact unhide SX _ (unhide EZ)
                            | with_reducible refine (cell_six ?_).trans (unhide SX _ (unhide EZ)); (have := unhide A1W; omega)
                            | with_reducible exact unhide SX _ (below_far (unhide EZ) (ez1 _ _))
                            | with_reducible exact unhide SX _ (below_far (unhide EZ) (ez2 _ _ _))
                            | with_reducible exact unhide SX _ (below_far (unhide EZ) (ez1D _ _))
                            | with_reducible exact unhide SX _ (below_far (unhide EZ) (ez2D _ _ _))
                            | with_reducible exact unhide SX _ (ez1 _ _)
                            | with_reducible exact unhide SX _ (ez2 _ _ _)
                            | with_reducible exact unhide SX _ (ez1D _ _)
                            | with_reducible exact unhide SX _ (ez2D _ _ _)
                            | fail
                        clear hK K
                        try simp only [Act.put, List.setIfInBounds_toArray, List.set_cons_zero, List.set_cons_succ]
                        refine wpAnyH_ready (rs := [17]) (by kernel_rfl) (by simp) ?_
                        refine AllReadyH.cons rfl (fun K hK => ?_) ?_
                        · go_simp
                          refine hK.out _ _ ?_ (fun hHeld => ?_)
                          · first
                              | with_reducible exact unhide SX _ (unhide EZ)
                              | with_reducible refine (cell_six ?_).trans (unhide SX _ (unhide EZ)); (have := unhide A1W; omega)
                              | with_reducible exact unhide SX _ (below_far (unhide EZ) (ez1 _ _))
                              | with_reducible exact unhide SX _ (below_far (unhide EZ) (ez2 _ _ _))
                              | with_reducible exact unhide SX _ (below_far (unhide EZ) (ez1D _ _))
                              | with_reducible exact unhide SX _ (below_far (unhide EZ) (ez2D _ _ _))
                              | with_reducible exact unhide SX _ (ez1 _ _)
                              | with_reducible exact unhide SX _ (ez2 _ _ _)
                              | with_reducible exact unhide SX _ (ez1D _ _)
                              | with_reducible exact unhide SX _ (ez2D _ _ _)
                              | fail
                          clear hK K
                          try simp only [Act.put, List.setIfInBounds_toArray, List.set_cons_zero, List.set_cons_succ]
                          refine wpAnyH_done (by kernel_rfl) ?_ _
                          refine NoPanic.normal ?_
                          go_wp2_with fail
                          go_meet
                          exact ⟨_, mo, mc, rfl, by first | exact Nat.le_refl _ | omega | fail, mem_end (unhide KC).1 (unhide KC).2 (unhide I2) (unhide F2) (unhide EZ) (by first | exact Nat.le_refl _ | omega | fail) _ _ _⟩
                        exact AllReadyH.nil
                      exact AllReadyH.nil
                    exact AllReadyH.nil
                  exact AllReadyH.nil
                exact AllReadyH.nil
              exact AllReadyH.nil
            exact AllReadyH.nil
        case rest =>
          obtain ⟨G, mo, mc, rfl, hG, xG, im, bw⟩ := hcut
          clear WI SX LI GO
          obtain ⟨e, he⟩ : ∃ e : En, e = ⟨kd, 0, 0, ⟨#[]⟩, ms, 0⟩ := ⟨_, rfl⟩
          obtain ⟨V, hV⟩ : ∃ V, wc.alloc (boxM kd mo z mc) = V := ⟨_, rfl⟩
          have bV : Below wc.heap.size wc V := by rw [← hV]; exact ez1 _ _
          have sV : wc.heap.size < V.heap.size := by rw [← hV]; simp
          have bwV := below_far bw bV
          have hE : EsR (fun j => wr.heap.size ≤ j ∧ j < V.heap.size) V (some ⟨wc.heap.size, 0, none⟩) [e] := by
            rw [← hV, he]
            have h := es_one wc ⟨kd, 0, 0, ⟨#[]⟩, ms, 0⟩ mo mc (F := fun j => wr.heap.size ≤ j ∧ j < V.heap.size) (im.mono (fun j hj => ⟨hj.1, by omega⟩)) (by show ms.length ≤ _; rw [unhide HZ]; omega) ⟨bw.size, sV⟩
            simp only [unhide HZ] at h
            rw [← hV] at h
            exact h
          obtain ⟨p1, p2, p3⟩ := ones_app rs e (unhide HONE) (by rw [unhide HL]; omega)
          have AP := hide (append_any ((unhide HS).below bwV) ⟨by decide, by decide, by rw [unhide HL]; omega⟩ 1 (some ⟨wc.heap.size, 0, none⟩) 1 1 [e] rfl (by decide) hE (fun j hj x => by have := (unhide HS).lt j x; omega) (fun j hj => hj.2))
          rw [p1, p2, p3] at AP
          have a0 : wc.cell? ⟨G, 0, none⟩ = some (.int .i64 kd) := (cell_of_block xG).trans rfl
          have a1' : wc.cell? ⟨G, 1, none⟩ = some (.int .i64 0) := (cell_of_block xG).trans rfl
          have a2 : wc.cell? ⟨G, 2, none⟩ = some (.int .i64 0) := (cell_of_block xG).trans rfl
          have a3 : wc.cell? ⟨G, 3, none⟩ = some (.string ⟨#[]⟩) := (cell_of_block xG).trans rfl
          have a4 : wc.cell? ⟨G, 4, none⟩ = some (.slice mo z mc) := (cell_of_block xG).trans rfl
          have a5 : wc.cell? ⟨G, 5, none⟩ = some (.int .i64 0) := (cell_of_block xG).trans rfl
          have XG := hide (Below.stay bV xG)
          have IM := hide (im.below bV)
          have WCS := hide (Nat.le_of_lt sV)
          have BWV := hide bwV
          have HV := hide hV
          have HE := hide he
          clear hV bV sV bwV hE xG im bw p1 p2 p3 he
          go_wp2_with fail
          rw [unhide HV]
          refine (unhide AP).mono ?_
          rintro e0 y1 ⟨rfl, h1, k1⟩
          clear a0 a1' a2 a3 a4 a5 AP HV
          have nD : ∀ j, wr.heap.size ≤ j → ¬ D j := fun j hj x => by have := (unhide HS).lt j x; omega
          have xG := k1.block (unhide XG) (nD G hG)
          have x6 := k1.block (Below.stay (unhide BWV) (unhide X6)) (fun x => (unhide HD _ x).2.1 rfl)
          have x7 := k1.block (Below.stay (unhide BWV) (unhide X7)) (fun x => (unhide HD _ x).2.2 rfl)
          have im := (unhide IM).kp k1 (fun j hj => nD j hj.1)
          have cf6 := ((unhide CF6).below (unhide BWV)).kp k1 (unhide OF6)
          have cf7 := ((unhide CF7).below (unhide BWV)).kp k1 (unhide OF7)
          have of6 : Off (News D V y1) (.agg #[s0, s1]) o' n' := (unhide OF6).news (unhide CF6) (unhide BWV).size
          have of7 : Off (News D V y1) (.agg #[.slice none 0 0, .slice an n c]) [] P0 := (unhide OF7).news (unhide CF7) (unhide BWV).size
          have by1 : Below w.heap.size w y1 := (below_far (unhide BEL) (unhide BWV)).trans (k1.below (fun j x => (unhide HD j x).1) (Nat.le_trans (unhide BEL).size (unhide BWV).size))
          have qlt : q < V.heap.size := heap_lt (Below.stay (unhide BWV) (unhide X6))
          have q7lt : W.heap.size < V.heap.size := heap_lt (Below.stay (unhide BWV) (unhide X7))
          have hd1 : ∀ j, News D V y1 j → w.heap.size ≤ j ∧ j ≠ q ∧ j ≠ W.heap.size := fun j x => x.elim (unhide HD j) (fun y => ⟨by have := (unhide BEL).size; have := (unhide BWV).size; omega, by omega, by omega⟩)
          have hcf1 : cfOf ([], P0) ((rs ++ [((1 : Int), e)] : List Rw).map (·.2)) = cfStep (o', n') e := by rw [List.map_append, ← unhide HCF]; exact cfOf_snoc _ _ _
          obtain ⟨D1, hD1⟩ : ∃ D1, News D V y1 = D1 := ⟨_, rfl⟩
          rw [hD1] at h1 of6 of7 hd1
          obtain ⟨R, hR⟩ : ∃ R : List Rw, rs ++ [((1 : Int), e)] = R := ⟨_, rfl⟩
          have hRl : R.length = k + 1 := by rw [← hR, List.length_append, unhide HL]; rfl
          have hR1 : ∀ r ∈ R, r.1 = 1 := fun r hr => by
            rw [← hR] at hr
            rcases List.mem_append.1 hr with x | x
            · exact unhide HONE r x
            · rw [List.mem_singleton.1 x]
          rw [hR] at h1 hcf1
          obtain ⟨ao, no, co, an', nn, cn, ec, eno, lno, fo, enn, lnn, fn⟩ := cf6
          cases ec
          have c0 : y1.cell? ⟨G, 0, none⟩ = some (.int .i64 kd) := (cell_of_block xG).trans rfl
          have c4 : y1.cell? ⟨G, 4, none⟩ = some (.slice mo z mc) := (cell_of_block xG).trans rfl
          obtain ⟨d0, d1⟩ := two_cells x6
          have CF61 : Hid (Cf y1 (.agg #[.slice ao no co, .slice an' nn cn]) o' n') := ⟨ao, no, co, an', nn, cn, rfl, eno, lno, fo, enn, lnn, fn⟩
          have H1 := hide h1
          have X61 := hide x6
          have X71 := hide x7
          have IM1 := hide im.ints
          have CF71 := hide cf7
          have OF61 := hide of6
          have OF71 := hide of7
          have BY1 := hide by1
          have HD1 := hide hd1
          have HCF1 := hide hcf1
          have HR := hide (And.intro hRl hR1)
          have FN := hide fn.1
          have ENO := hide eno
          have ENN := hide enn
          have hno7 : no ≤ 7 := by rw [← eno]; exact (unhide LON).1
          have hnn7 : nn ≤ 7 := by rw [← enn]; exact (unhide LON).2
          have D1L := hide h1.lt
          clear xG x6 x7 im cf7 of6 of7 by1 hd1 hcf1 hR hRl hR1 h1 k1 nD qlt q7lt fo fn eno enn hD1 CF6 CF7 OF6 OF7 X6 X7 XG IM WCS HS HD HONE HCF
          go_upto_block 2 with fail
          go_cut [] (fun wc => ∃ b1 n1 p1 b2 n2 p2, wc.heap[q]? = some (.cells #[.slice b1 n1 p1, .slice b2 n2 p2] 34 (0, 0)) ∧ Cf wc (.agg #[.slice b1 n1 p1, .slice b2 n2 p2]) (cfStep (o', n') e).1 (cfStep (o', n') e).2 ∧ Off D1 (.agg #[.slice b1 n1 p1, .slice b2 n2 p2]) (cfStep (o', n') e).1 (cfStep (o', n') e).2 ∧ Kp (fun j => j = q) y1 wc)
          case first =>
            have he := unhide HE
            rcases unhide HKD with ⟨rfl, rfl⟩ | ⟨rfl, rfl⟩ | ⟨rfl, rfl⟩
            · have EN := hide (renter_hi ao an' mo no nn z co cn mc o' n' ms (unhide ENO) (unhide ENN) (unhide HZ) (by omega) (by omega) (by omega) y1 (unhide FN) (unhide IM1))
              by_cases hb : barredOf o' n' ms = 0
              · have hst : cfStep (o', n') e = (entO o' n' ms, entN o' n' ms) := by
                  rw [he]; unfold cfStep entO entN
                  simp [hb]
                rw [hb] at EN
                have HST := hide hst
                clear hst he hb
                go_wp2_with fail
                refine (unhide EN).mono ?_
                rintro e0 y2 ⟨v2, rfl, cf2, hi2, b2⟩
                have CF2 := hide cf2
                obtain ⟨bo, no2, po, bn, nn2, pn, rfl, -⟩ := cf2
                obtain ⟨y3, hy3, by3, xy3, -⟩ := boxed y2 (.slice bo no2 po) (.slice bn nn2 pn)
                have x6 := Below.stay by3 (Below.stay b2 (unhide X61))
                obtain ⟨f0, f1⟩ := two_cells xy3
                obtain ⟨g0, g1⟩ := two_cells x6
                obtain ⟨m0, m1⟩ := two_free x6
                have X63 := hide x6
                have CF3 := hide ((unhide CF2).below by3)
                have HI := hide hi2
                have B23 := hide (below_far b2 by3)
                have HY3 := hide hy3
                clear x6 xy3 hy3 by3 b2 hi2 EN d0 d1 c0 c4
                go_upto_region 16 with fail
                rw [unhide HY3]
                clear HY3
                go_wp2
                go_meet
                refine ⟨_, _, _, _, _, _, two_box (unhide X63), ?_, ?_, (Kp.of_below (unhide B23)).trans (two_kp y3 q _ _) (fun _ _ x => x)⟩
                · rw [unhide HST]; exact (unhide CF3).box (unhide X63) (fun v h => by cases h) (fun v h => by cases h) (fun j hj => by rw [Below.heap_setCell _ _ _ j hj, Below.heap_setCell _ _ _ j hj])
                · exact (unhide HI).off (unhide D1L) _ _
              · have hst : cfStep (o', n') e = (o', n') := by
                  rw [he]; unfold cfStep
                  simp [hb]
                obtain ⟨br, hbr⟩ : ∃ br, barredOf o' n' ms = br := ⟨_, rfl⟩
                rw [hbr] at EN hb
                have gb : ((br : Int) == 0) = false := by rw [beq_eq_false_iff_ne]; omega
                have HST := hide hst
                clear hst he hb hbr
                go_wp2_with fail
                refine (unhide EN).mono ?_
                rintro e0 y2 ⟨v2, rfl, cf2, hi2, b2⟩
                obtain ⟨bo, no2, po, bn, nn2, pn, rfl, -⟩ := cf2
                obtain ⟨y3, hy3, by3, xy3, -⟩ := boxed y2 (.slice bo no2 po) (.slice bn nn2 pn)
                have B23 := hide (below_far b2 by3)
                have HY3 := hide hy3
                clear xy3 hy3 by3 b2 hi2 EN d0 d1 c0 c4
                go_upto_region 16 with fail
                rw [unhide HY3]
                clear HY3
                go_wp2
                go_meet
                rw [unhide HST]
                exact ⟨_, _, _, _, _, _, Below.stay (unhide B23) (unhide X61), (unhide CF61).below (unhide B23), unhide OF61, Kp.of_below (unhide B23)⟩
            · have EN := hide (rleave_hi ao an' no nn co cn o' n' (unhide ENO) (unhide ENN) (by omega) y1 (unhide FN))
              by_cases hb : leaveOf o' = 0
              · have hst : cfStep (o', n') e = ([], leaveN o' n') := by
                  rw [he]; unfold cfStep
                  simp [hb]
                rw [hb] at EN
                have HST := hide hst
                clear hst he hb
                go_wp2_with fail
                refine (unhide EN).mono ?_
                rintro e0 y2 ⟨v2, rfl, cf2, hi2, b2⟩
                have CF2 := hide cf2
                obtain ⟨bo, no2, po, bn, nn2, pn, rfl, -⟩ := cf2
                obtain ⟨y3, hy3, by3, xy3, -⟩ := boxed y2 (.slice bo no2 po) (.slice bn nn2 pn)
                have x6 := Below.stay by3 (Below.stay b2 (unhide X61))
                obtain ⟨f0, f1⟩ := two_cells xy3
                obtain ⟨g0, g1⟩ := two_cells x6
                obtain ⟨m0, m1⟩ := two_free x6
                have X63 := hide x6
                have CF3 := hide ((unhide CF2).below by3)
                have HI := hide hi2
                have B23 := hide (below_far b2 by3)
                have HY3 := hide hy3
                clear x6 xy3 hy3 by3 b2 hi2 EN d0 d1 c0 c4
                go_upto_region 20 with fail
                rw [unhide HY3]
                clear HY3
                go_wp2
                go_meet
                refine ⟨_, _, _, _, _, _, two_box (unhide X63), ?_, ?_, (Kp.of_below (unhide B23)).trans (two_kp y3 q _ _) (fun _ _ x => x)⟩
                · rw [unhide HST]; exact (unhide CF3).box (unhide X63) (fun v h => by cases h) (fun v h => by cases h) (fun j hj => by rw [Below.heap_setCell _ _ _ j hj, Below.heap_setCell _ _ _ j hj])
                · exact (unhide HI).off (unhide D1L) _ _
              · have hst : cfStep (o', n') e = (o', n') := by
                  rw [he]; unfold cfStep
                  simp [hb]
                obtain ⟨br, hbr⟩ : ∃ br, leaveOf o' = br := ⟨_, rfl⟩
                rw [hbr] at EN hb
                have gb : ((br : Int) == 0) = false := by rw [beq_eq_false_iff_ne]; omega
                have HST := hide hst
                clear hst he hb hbr
                go_wp2_with fail
                refine (unhide EN).mono ?_
                rintro e0 y2 ⟨v2, rfl, cf2, hi2, b2⟩
                obtain ⟨bo, no2, po, bn, nn2, pn, rfl, -⟩ := cf2
                obtain ⟨y3, hy3, by3, xy3, -⟩ := boxed y2 (.slice bo no2 po) (.slice bn nn2 pn)
                have B23 := hide (below_far b2 by3)
                have HY3 := hide hy3
                clear xy3 hy3 by3 b2 hi2 EN d0 d1 c0 c4
                go_upto_region 20 with fail
                rw [unhide HY3]
                clear HY3
                go_wp2
                go_meet
                rw [unhide HST]
                exact ⟨_, _, _, _, _, _, Below.stay (unhide B23) (unhide X61), (unhide CF61).below (unhide B23), unhide OF61, Kp.of_below (unhide B23)⟩
            · have hst : cfStep (o', n') e = (o', n') := by
                rw [he]; unfold cfStep
                simp
              have HST := hide hst
              clear hst he
              go_wp2
              go_meet
              rw [unhide HST]
              exact ⟨_, _, _, _, _, _, unhide X61, unhide CF61, unhide OF61, Kp.refl _ _⟩
          case rest =>
            obtain ⟨b1, n1, p1, b2, n2, p2, x6, cf6, of6, kq⟩ := hcut
            have hs := (unhide H1).kp kq (fun j hj x => (unhide HD1 j hj).2.1 x)
            have x7 := kq.block (unhide X71) (fun x => by have := unhide SQ; omega)
            have cf7 : Cf wc (.agg #[.slice none 0 0, .slice an n c]) [] P0 := (unhide CF71).kp kq ((unhide CF71).offBox (unhide X61))
            have hlen := cf_len (M := 7) (c := (o', n')) (e := e) (unhide LON).1 (unhide LON).2 (by rw [unhide HE]; show ms.length ≤ 7; rw [unhide HZ]; exact ml)
            obtain ⟨o2, ho2⟩ : ∃ o2, (cfStep (o', n') e).1 = o2 := ⟨_, rfl⟩
            obtain ⟨n3, hn3⟩ : ∃ n3, (cfStep (o', n') e).2 = n3 := ⟨_, rfl⟩
            have hcf : cfOf ([], P0) (R.map (·.2)) = (o2, n3) := by rw [unhide HCF1, ← ho2, ← hn3]
            rw [ho2, hn3] at cf6 of6 hlen
            have CO := hide (fun Y (h : Below wc.heap.size wc Y) => hconfig_any (hs.below h) (by rw [(unhide HR).1]; omega) (.agg #[.slice none 0 0, .slice an n c]) [] P0 (by simp) (by have := unhide PLN; omega) (cf7.below h))
            rw [hcf] at CO
            have CS := hide (fun Y (h : Below wc.heap.size wc Y) => cf6.below h)
            have CX := hide (fun Y (h : Below wc.heap.size wc Y) => And.intro (two_cells (Below.stay h x6)) (two_cells (Below.stay h x7)))
            have by2 : Below w.heap.size w wc := (unhide BY1).trans (kq.below (fun j hj => by rw [hj]; exact unhide SPQ) (unhide BY1).size)
            have HS2 := hide (fun Y (h : Below wc.heap.size wc Y) => hs.below h)
            have X62 := hide x6
            have X72 := hide x7
            have CF72 := hide (fun Y (h : Below wc.heap.size wc Y) => cf7.below h)
            have OF62 := hide of6
            have HCF2 := hide hcf
            have HLEN := hide hlen
            have BY2 := hide by2
            clear hs x7 cf7 ho2 hn3 hcf cf6 of6 kq x6 hlen by2 c0 c4 d0 d1 X61 X71 CF61 CF71 OF61 IM1 H1 HCF1 FN ENO ENN BY1
            go_upto_region 22 with fail
            go_cut [86] (fun v86 wq => v86 = .bool false ∧ Below wc.heap.size wc wq)
            case first =>
              have EZ := hide ((Below.refl wc.heap.size wc).drew)
              obtain ⟨⟨e0, e1⟩, e2, e3⟩ := unhide CX _ (unhide EZ)
              go_region_held3 (fun Y => (Y.cell? ⟨q, 0, none⟩ = some (.slice b1 n1 p1) ∧ Y.cell? ⟨q, 1, none⟩ = some (.slice b2 n2 p2)) ∧ Y.cell? ⟨W.heap.size, 0, none⟩ = some (.slice none 0 0) ∧ Y.cell? ⟨W.heap.size, 1, none⟩ = some (.slice an n c))
                (first | with_reducible exact unhide CX _ (unhide EZ) | fail)
                (first
                  | (go_at_call 27
                     refine (unhide CO _ (unhide EZ)).mono ?_
                     rintro x0 z1 ⟨v1, rfl, k1, bz⟩
                     have SM := hide (same_cf (o := o2) (n := n3) k1 (unhide CS z1 (below_far (unhide EZ) bz)) (Nat.le_trans (unhide HLEN).1 (by decide)) (Nat.le_trans (unhide HLEN).2 (by decide)))
                     have E0 := hide (below_far (unhide EZ) bz)
                     clear EZ k1 bz; have EZ := E0; clear E0)
                  | (go_at_call 26
                     refine (unhide SM).mono ?_
                     rintro x0 z2 ⟨rfl, bz⟩
                     have E0 := hide (below_far (unhide EZ) bz)
                     clear EZ bz; have EZ := E0; clear E0))
              all_goals go_wp2_with fail
              all_goals go_meet
              all_goals exact ⟨rfl, unhide EZ⟩
            case rest =>
              obtain ⟨rfl, bq⟩ := hcut
              have hs := unhide HS2 _ bq
              have x6 := Below.stay bq (unhide X62)
              have x7 := Below.stay bq (unhide X72)
              have cf6 := unhide CS _ bq
              have cf7 := unhide CF72 _ bq
              have bb := below_far (unhide BY2) bq
              have FIN := hide (And.intro hs (And.intro x6 (And.intro x7 (And.intro cf6 (And.intro cf7 bb)))))
              clear hs x6 x7 cf6 cf7 bb bq CO CS CX
              go_wp2
              go_roundw
              case rel =>
                obtain ⟨hs, x6, x7, cf6, cf7, bb⟩ := unhide FIN
                exact ⟨k + 1, D1, R, _, _, o2, n3, by omega, by omega, by go_num, hs, (unhide HR).1, (unhide HR).2, unhide HD1, x6, cf6, unhide OF62, unhide HCF2, (unhide HLEN).1, (unhide HLEN).2, x7, cf7, unhide OF71, bb⟩
              case measure => simp [intOf]; omega
      · have g2 : ¬ (k : Int) < 30 := by omega
        go_wp2
        go_ret
        exact ⟨rfl, unhide BEL⟩
    · have g1 : ¬ (k : Int) < (m : Int) := by omega
      go_wp2
      go_ret
      exact ⟨rfl, unhide BEL⟩
end Go.Proofs.Ythebgkkdkhlbbaa
