/- The reference's Votes: Add, Won, Lost: contracts. -/
import Derived.Test.YtjcidihcmbenhaaYIn
import Derived.Test.YtjcidihcmbenhaaYVote3
import Derived.Test.YtjcidihcmbenhaaYReachW
namespace Go.Proofs.Ytjcidihcmbenhaa
open Go.RowKit Go.Maps

theorem four_cells {w : World} {B : Nat} {x y z u : Value} {t : TypeId} {fr : Nat × Nat} (h : w.heap[B]? = some (.cells #[x, y, z, u] t fr)) : w.cell? ⟨B, 0, none⟩ = some x ∧ w.cell? ⟨B, 1, none⟩ = some y ∧ w.cell? ⟨B, 2, none⟩ = some z ∧ w.cell? ⟨B, 3, none⟩ = some u := by
  refine ⟨?_, ?_, ?_, ?_⟩ <;> simp [World.cell?, h]
theorem four_free {w : World} {B : Nat} {x y z u : Value} {t : TypeId} (h : w.heap[B]? = some (.cells #[x, y, z, u] t (0, 0))) : w.frozen? ⟨B, 2, none⟩ = false ∧ w.frozen? ⟨B, 3, none⟩ = false := by
  refine ⟨?_, ?_⟩ <;> simp [World.frozen?, h]
/-- votes of the reference at block q; what it holds of its own lies above base, all else below it. -/
def Xv (base : Nat) (w : World) (q : Nat) (old new yes no' : List Int) : Prop :=
  ∃ ao n1 c1 an n2 c2 yv nv, w.heap[q]? = some (.cells #[.slice ao n1 c1, .slice an n2 c2, yv, nv] 41 (0, 0)) ∧ old.length = n1 ∧ new.length = n2 ∧ Fr w ao old ∧ Fr w an new ∧ Lo base ao old ∧ Lo base an new ∧ Two base w yv nv yes no' ∧ q < base
theorem Xv.below {base : Nat} {w w' : World} {q : Nat} {old new yes no' : List Int} (h : Xv base w q old new yes no') (hb : Below w.heap.size w w') : Xv base w' q old new yes no' := by
  obtain ⟨ao, n1, c1, an, n2, c2, yv, nv, h1, h2, h3, h4, h5, h6, h7, h8, h9⟩ := h
  exact ⟨ao, n1, c1, an, n2, c2, yv, nv, Below.stay hb h1, h2, h3, h4.below hb, h5.below hb, h6, h7, h8.below hb, h9⟩
theorem Fr.lowq {w w' : World} {q base : Nat} {s1 s2 s3 s4 : Value} {t : TypeId} {fr : Nat × Nat} {ao : Option Addr} {ys : List Int} (h : Fr w ao ys) (hl : Lo base ao ys) (hq : w.heap[q]? = some (.cells #[s1, s2, s3, s4] t fr))
    (g1 : ∃ a n c, s1 = .slice a n c) (g2 : ∃ a n c, s2 = .slice a n c) (g3 : ∃ a n c, s3 = .slice a n c) (g4 : ∃ a n c, s4 = .slice a n c) (hk : ∀ k, k < base → k ≠ q → w'.heap[k]? = w.heap[k]?) : Fr w' ao ys := by
  refine ⟨fun i hi => ?_, h.2⟩
  obtain ⟨a, e, hc⟩ := h.1 i hi
  refine ⟨a, e, ?_⟩
  have hlo := hl (fun e' => by rw [e'] at hi; simp at hi) a e
  obtain ⟨g, off, rfl⟩ := h.2 a e
  rw [Addr.add_lit] at hc ⊢
  rw [← hc]
  refine World.cell?_of_block (hk g hlo ?_)
  rintro rfl
  simp only [World.cell?, hq] at hc
  obtain ⟨_, _, _, rfl⟩ := g1
  obtain ⟨_, _, _, rfl⟩ := g2
  obtain ⟨_, _, _, rfl⟩ := g3
  obtain ⟨_, _, _, rfl⟩ := g4
  match off + i, hc with
  | 0, hc => simp at hc
  | 1, hc => simp at hc
  | 2, hc => simp at hc
  | 3, hc => simp at hc
  | j + 4, hc => simp at hc
theorem Ir.isSlice {base : Nat} {w : World} {v : Value} {ys : List Int} (h : Ir base w v ys) : ∃ a n c, v = .slice a n c := by
  obtain ⟨a, c, e, _⟩ := h.slice; exact ⟨a, _, c, e⟩
def rtakes (old new yes no' : List Int) (x : Int) : Bool := inOf old new x && (!yes.contains x && !no'.contains x)
def ryes (old new yes no' : List Int) (x : Int) (y : Bool) : List Int := if rtakes old new yes no' x = true ∧ y = true then yes ++ [x] else yes
def rno (old new yes no' : List Int) (x : Int) (y : Bool) : List Int := if rtakes old new yes no' x = true ∧ y = false then no' ++ [x] else no'
theorem box4 {y : World} {B : Nat} {s1 s2 s3 s4 u : Value} {t : TypeId} (hz : y.heap[B]? = some (.cells #[s1, s2, s3, s4] t (0, 0))) : (y.setCell ⟨B, 2, none⟩ u).heap[B]? = some (.cells #[s1, s2, u, s4] t (0, 0)) ∧ (y.setCell ⟨B, 3, none⟩ u).heap[B]? = some (.cells #[s1, s2, s3, u] t (0, 0)) := by
  constructor <;> simp [World.setCell, Array.getElem?_modify, hz]
theorem Two.set {base : Nat} {w : World} {u v : Value} {xs ys : List Int} (h : Two base w u v xs ys) {p : Addr} (hp : p.block < base) (z : Value) : Two base (w.setCell p z) u v xs ys := by
  have hk : ∀ k, base ≤ k → (w.setCell p z).heap[k]? = w.heap[k]? := fun k hk => Below.heap_setCell w p z k (by omega)
  exact ⟨own_kept h.1 fun k e => hk k (h.1.lt k e).1, own_kept h.2.1 fun k e => hk k (h.2.1.lt k e).1, h.2.2⟩

theorem radd_end {lo base q j : Nat} {w w3 w4 : World} {z : Value} (b3 : Below w.heap.size w w3) (hbs : base ≤ w.heap.size) (g4 : Below base w3 w4) (hlo : lo ≤ q) (hq : q < base) :
    (∀ k, k < base → k ≠ q → (w4.setCell ⟨q, j, none⟩ z).heap[k]? = w.heap[k]?) ∧ Kept lo (fun k => k = q ∨ base ≤ k) w (w4.setCell ⟨q, j, none⟩ z) := by
  have hk : ∀ k, k < base → k ≠ q → (w4.setCell ⟨q, j, none⟩ z).heap[k]? = w.heap[k]? := fun k hk hn => by
    rw [Below.heap_setCell _ _ _ k hn, g4.block k hk, b3.block k (by omega)]
  refine ⟨hk, ((b3.mono (by omega)).trans (g4.mono (by omega))).setCell hlo z, fun k _ hn => ?_⟩
  have h1 : k ≠ q := fun e => hn (Or.inl e)
  have h2 : ¬ base ≤ k := fun e => hn (Or.inr e)
  exact hk k (by omega) h1

set_option maxRecDepth 20000 in
set_option maxHeartbeats 4000000 in
theorem radd_any {lo base : Nat} {q : Nat} {old new yes no' : List Int} (x : Int) (y : Bool) (w : World) (h : Xv base w q old new yes no') (hO : old.length ≤ 1000) (hN : new.length ≤ 1000) (hy : yes.length ≤ 1000) (hn : no'.length ≤ 1000) (hlo : lo ≤ q) (hbs : base ≤ w.heap.size) :
    Calls Try.prog 15 #[.pointer (some ⟨q, 0, none⟩), .int .i64 x, .bool y] w fun e w' => e = .returned (.bool (rtakes old new yes no' x)) ∧ Xv base w' q old new (ryes old new yes no' x y) (rno old new yes no' x y) ∧ Kept lo (fun k => k = q ∨ base ≤ k) w w' := by
  have HX := hide h
  obtain ⟨ao, n1, c1, an, n2, c2, yv, nv, h1, h2, h3, h4, h5, h6, h7, h8, h9⟩ := h
  have hlb : lo ≤ w.heap.size := by omega
  have SX := hide (fun (Y : World) (h : Below w.heap.size w Y) => four_cells (Below.stay h h1))
  obtain ⟨ay, py, rfl, fy, -, -⟩ := h8.1.slice
  obtain ⟨az, pz, rfl, fz, -, -⟩ := h8.2.1.slice
  have IN := hide (rin_any ao an n1 n2 c1 c2 old new h2 h3 (by omega) (by omega) x w h4.1 h5.1)
  have IY := hide (fun (Y : World) (h : Below w.heap.size w Y) => inn_any ay yes.length py yes rfl (by omega) x Y (fy.1.below h))
  have IZ := hide (fun (Y : World) (h : Below w.heap.size w Y) => inn_any az no'.length pz no' rfl (by omega) x Y (fz.1.below h))
  have TT := hide h8
  have H1 := hide h1
  have KF := hide (fun (W : World) (hk : ∀ k, k < base → k ≠ q → W.heap[k]? = w.heap[k]?) => And.intro (h4.lowq h6 h1 ⟨_, _, _, rfl⟩ ⟨_, _, _, rfl⟩ ⟨_, _, _, rfl⟩ ⟨_, _, _, rfl⟩ hk) (h5.lowq h7 h1 ⟨_, _, _, rfl⟩ ⟨_, _, _, rfl⟩ ⟨_, _, _, rfl⟩ ⟨_, _, _, rfl⟩ hk))
  have MK := hide (fun (W : World) (u v : Value) (ys zs : List Int) (hk : ∀ k, k < base → k ≠ q → W.heap[k]? = w.heap[k]?) (hq : W.heap[q]? = some (.cells #[.slice ao n1 c1, .slice an n2 c2, u, v] 41 (0, 0))) (ht : Two base W u v ys zs) => (⟨ao, n1, c1, an, n2, c2, u, v, hq, h2, h3, (unhide KF W hk).1, (unhide KF W hk).2, h6, h7, ht, h9⟩ : Xv base W q old new ys zs))
  have RT : Hid (rtakes old new yes no' x = (inOf old new x && (!yes.contains x && !no'.contains x))) := rfl
  have RY : Hid (ryes old new yes no' x y = if rtakes old new yes no' x = true ∧ y = true then yes ++ [x] else yes) := rfl
  have RN : Hid (rno old new yes no' x y = if rtakes old new yes no' x = true ∧ y = false then no' ++ [x] else no') := rfl
  obtain ⟨r1, hr1⟩ : ∃ r1, inOf old new x = r1 := ⟨_, rfl⟩
  obtain ⟨r2, hr2⟩ : ∃ r2, yes.contains x = r2 := ⟨_, rfl⟩
  obtain ⟨r3, hr3⟩ : ∃ r3, no'.contains x = r3 := ⟨_, rfl⟩
  obtain ⟨tk, htk⟩ : ∃ tk, rtakes old new yes no' x = tk := ⟨_, rfl⟩
  obtain ⟨fy', hfy⟩ : ∃ fy', ryes old new yes no' x y = fy' := ⟨_, rfl⟩
  obtain ⟨fn', hfn⟩ : ∃ fn', rno old new yes no' x y = fn' := ⟨_, rfl⟩
  rw [hr1] at IN RT
  rw [hr2] at IY RT
  rw [hr3] at IZ RT
  rw [htk] at RT RY RN
  rw [hfy] at RY
  rw [hfn] at RN
  rw [htk, hfy, hfn]
  obtain ⟨d0, d1, d2, d3⟩ := unhide SX w (Below.refl _ _)
  have LY := hide hy
  have LN := hide hn
  clear h1 h2 h3 h4 h5 h6 h7 h8 hr1 hr2 hr3 htk hfy hfn fy fz
  go_enter Try.func15, Try.ntmps15
  go_wp2_with fail
  refine (unhide IN).mono ?_
  rintro e w1 ⟨rfl, b1⟩
  have B1 := hide b1
  clear b1 IN d0 d1 d2 d3
  cases r1
  · obtain rfl : tk = false := unhide RT
    obtain rfl : fy' = yes := by rw [unhide RY, if_neg (by rintro ⟨e, _⟩; cases e)]
    obtain rfl : fn' = no' := by rw [unhide RN, if_neg (by rintro ⟨e, _⟩; cases e)]
    clear RT RY RN
    go_wp2
    go_ret
    exact ⟨rfl, (unhide HX).below (unhide B1), Kept.of_below (unhide B1) hlb⟩
  · obtain ⟨d0, d1, d2, d3⟩ := unhide SX w1 (unhide B1)
    have I1 := hide (unhide IY w1 (unhide B1))
    clear IY
    go_wp2_with fail
    refine (unhide I1).mono ?_
    rintro e w2 ⟨rfl, b2⟩
    have B2 := hide ((unhide B1).trans (b2.mono (unhide B1).size))
    clear b2 I1 d0 d1 d2 d3
    cases r2
    · obtain ⟨d0, d1, d2, d3⟩ := unhide SX w2 (unhide B2)
      have I2 := hide (unhide IZ w2 (unhide B2))
      clear IZ
      go_wp2_with fail
      refine (unhide I2).mono ?_
      rintro e w3 ⟨rfl, b3⟩
      have B3 := hide ((unhide B2).trans (b3.mono (unhide B2).size))
      clear b3 I2 d0 d1 d2 d3
      cases r3
      · obtain rfl : tk = true := unhide RT
        obtain ⟨d0, d1, d2, d3⟩ := unhide SX w3 (unhide B3)
        have T3 := hide ((unhide TT).below (unhide B3))
        have s3 := (unhide B3).size
        have hb3 : base ≤ w3.heap.size := by omega
        have Q3 := hide (Below.stay (unhide B3) (unhide H1))
        obtain ⟨fr2, fr3⟩ := four_free (unhide Q3)
        cases y
        · obtain rfl : fy' = yes := by rw [unhide RY, if_neg (by rintro ⟨_, e⟩; cases e)]
          obtain rfl : fn' = no' ++ [x] := by rw [unhide RN, if_pos ⟨rfl, rfl⟩]
          clear RT RY RN
          go_wp2_with (first
            | (at_builtin
               refine wpList_app2 rfl (.tmp 45) (.tmp 47) rfl base _ _ no' fy' rfl ((unhide T3).below ((Below.refl _ _).alloc (Nat.le_refl _) _)).swap ⟨w3.heap.size, 0, none⟩ x rfl (one_int _ _) (by have := unhide LN; omega) (by simp; omega) ?_
               intro v4 w4 own4 g4
               have G4 := hide (((unhide T3).below ((Below.refl _ _).alloc (Nat.le_refl _) (.cells #[.int .i64 x] 3))).swap.grown g4 (((Below.refl w3.heap.size w3).mono hb3).alloc hb3 _) (by simp; omega))
               obtain ⟨a4, p4, rfl, -, -, -⟩ := own4.1.slice
               have T4 := hide own4.swap
               have Q4 := hide (((unhide G4).block q h9).trans (unhide Q3))
               obtain ⟨e0, e1, e2, e3⟩ := four_cells (unhide Q4)
               obtain ⟨fr4, fr5⟩ := four_free (unhide Q4)
               clear own4 g4))
          go_ret
          have el : (no' ++ [x]).length = no'.length + 1 := by simp
          have T5 := unhide T4
          rw [el] at T5
          obtain ⟨k1, k2⟩ := radd_end (lo := lo) (j := 3) (z := .slice a4 (no'.length + 1) p4) (unhide B3) hbs (unhide G4) hlo h9
          exact ⟨rfl, unhide MK _ _ _ _ _ k1 (box4 (unhide Q4)).2 (T5.set h9 _), k2⟩
        · obtain rfl : fy' = yes ++ [x] := by rw [unhide RY, if_pos ⟨rfl, rfl⟩]
          obtain rfl : fn' = no' := by rw [unhide RN, if_neg (by rintro ⟨_, e⟩; cases e)]
          clear RT RY RN
          go_wp2_with (first
            | (at_builtin
               refine wpList_app2 rfl (.tmp 35) (.tmp 37) rfl base _ _ yes fn' rfl ((unhide T3).below ((Below.refl _ _).alloc (Nat.le_refl _) _)) ⟨w3.heap.size, 0, none⟩ x rfl (one_int _ _) (by have := unhide LY; omega) (by simp; omega) ?_
               intro v4 w4 own4 g4
               have G4 := hide (((unhide T3).below ((Below.refl _ _).alloc (Nat.le_refl _) (.cells #[.int .i64 x] 3))).grown g4 (((Below.refl w3.heap.size w3).mono hb3).alloc hb3 _) (by simp; omega))
               obtain ⟨a4, p4, rfl, -, -, -⟩ := own4.1.slice
               have T4 := hide own4
               have Q4 := hide (((unhide G4).block q h9).trans (unhide Q3))
               obtain ⟨e0, e1, e2, e3⟩ := four_cells (unhide Q4)
               obtain ⟨fr4, fr5⟩ := four_free (unhide Q4)
               clear own4 g4))
          go_ret
          have el : (yes ++ [x]).length = yes.length + 1 := by simp
          have T5 := unhide T4
          rw [el] at T5
          obtain ⟨k1, k2⟩ := radd_end (lo := lo) (j := 2) (z := .slice a4 (yes.length + 1) p4) (unhide B3) hbs (unhide G4) hlo h9
          exact ⟨rfl, unhide MK _ _ _ _ _ k1 (box4 (unhide Q4)).1 (T5.set h9 _), k2⟩
      · obtain rfl : tk = false := unhide RT
        obtain rfl : fy' = yes := by rw [unhide RY, if_neg (by rintro ⟨e, _⟩; cases e)]
        obtain rfl : fn' = no' := by rw [unhide RN, if_neg (by rintro ⟨e, _⟩; cases e)]
        clear RT RY RN
        go_wp2
        go_ret
        exact ⟨rfl, (unhide HX).below (unhide B3), Kept.of_below (unhide B3) hlb⟩
    · obtain rfl : tk = false := unhide RT
      obtain rfl : fy' = yes := by rw [unhide RY, if_neg (by rintro ⟨e, _⟩; cases e)]
      obtain rfl : fn' = no' := by rw [unhide RN, if_neg (by rintro ⟨e, _⟩; cases e)]
      clear RT RY RN
      go_wp2
      go_ret
      exact ⟨rfl, (unhide HX).below (unhide B2), Kept.of_below (unhide B2) hlb⟩

set_option maxRecDepth 20000 in
set_option maxHeartbeats 2000000 in
theorem rwon_any {base : Nat} {q : Nat} {old new yes no' : List Int} (w : World) (h : Xv base w q old new yes no') (hO : old.length ≤ 1000) (hN : new.length ≤ 1000) (hy : yes.length ≤ 1000) :
    Calls Try.prog 17 #[.pointer (some ⟨q, 0, none⟩)] w fun e w' => e = .returned (.bool (quorumOf old new yes)) ∧ Below w.heap.size w w' := by
  obtain ⟨ao, n1, c1, an, n2, c2, yv, nv, h1, h2, h3, h4, h5, -, -, h8, -⟩ := h
  obtain ⟨ay, py, rfl, fy, -, -⟩ := h8.1.slice
  have SX := hide (fun (Y : World) (h : Below w.heap.size w Y) => show Y.cell? ⟨q, 0, none⟩ = some (.slice ao n1 c1) ∧ Y.cell? ⟨q, 1, none⟩ = some (.slice an n2 c2) ∧ Y.cell? ⟨q, 2, none⟩ = some (.slice ay yes.length py) from by
    obtain ⟨g0, g1, g2, _⟩ := four_cells (Below.stay h h1)
    exact ⟨g0, g1, g2⟩)
  have QU := hide (fun (Z : World) (h : Below w.heap.size w Z) => rquorum_any ao an n1 n2 c1 c2 old new h2 h3 ay yes.length py yes rfl (by omega) (by omega) (by omega) Z (h4.1.below h) (h5.1.below h) (fy.1.below h))
  obtain ⟨R, hR⟩ : ∃ R, quorumOf old new yes = R := ⟨_, rfl⟩
  rw [hR] at QU
  rw [hR]
  have EZ := hide (Below.refl w.heap.size w).drew
  clear h1 h2 h3 h4 h5 h8 fy hR
  go_enter Try.func17, Try.ntmps17
  go_wp2_with fail
  first
  | (go_region_held_law (fun Z => Z.cell? ⟨q, 0, none⟩ = some (.slice ao n1 c1) ∧ Z.cell? ⟨q, 1, none⟩ = some (.slice an n2 c2) ∧ Z.cell? ⟨q, 2, none⟩ = some (.slice ay yes.length py))
      (first | exact unhide SX _ (unhide EZ))
      (first
        | (go_at_call 12
           refine (unhide QU _ (unhide EZ)).mono ?_
           rintro e wz ⟨rfl, bz⟩
           have E0 := hide ((unhide EZ).trans (bz.mono (unhide EZ).size))
           clear EZ
           have EZ := E0
           clear E0 bz)))
  | fail
  all_goals go_wp2
  all_goals go_ret
  all_goals exact ⟨rfl, unhide EZ⟩

set_option maxRecDepth 20000 in
set_option maxHeartbeats 4000000 in
theorem rlost_any {base : Nat} {q : Nat} {old new yes no' : List Int} (w : World) (h : Xv base w q old new yes no') (hO : old.length ≤ 1000) (hN : new.length ≤ 1000) (hn : no'.length ≤ 1000) :
    Calls Try.prog 19 #[.pointer (some ⟨q, 0, none⟩)] w fun e w' => e = .returned (.bool (!quorumOf old new ((allOf (memB old new) 9).filter fun id => !no'.contains id))) ∧ Below w.heap.size w w' := by
  obtain ⟨ao, n1, c1, an, n2, c2, yv, nv, h1, h2, h3, h4, h5, -, -, h8, -⟩ := h
  obtain ⟨az, pz, rfl, fz, -, -⟩ := h8.2.1.slice
  have SX := hide (fun (Y : World) (h : Below w.heap.size w Y) => four_cells (Below.stay h h1))
  have ME := hide (rmembers_any ao an n1 n2 c1 c2 old new h2 h3 (by omega) (by omega) w h4.1 h5.1)
  have IZ := hide (fun (Y : World) (h : Below w.heap.size w Y) (x : Int) => inn_any az no'.length pz no' rfl (by omega) x Y (fz.1.below h))
  have QU := hide (fun (Z : World) (h : Below w.heap.size w Z) (ay : Option Addr) (m d : Nat) (ys : List Int) (hm : ys.length = m) (hm9 : m ≤ 9) (hy : IntsR Z ay ys) => rquorum_any ao an n1 n2 c1 c2 old new h2 h3 ay m d ys hm (by omega) (by omega) (by omega) Z (h4.1.below h) (h5.1.below h) hy)
  have HL9 := (all_up (memB old new) 9).2.2
  obtain ⟨M, hM⟩ : ∃ M, allOf (memB old new) 9 = M := ⟨_, rfl⟩
  rw [hM] at ME HL9
  rw [hM]
  obtain ⟨p, hp⟩ : ∃ p : Int → Bool, (fun id => !no'.contains id) = p := ⟨_, rfl⟩
  rw [hp]
  have HP : Hid (∀ y, no'.contains y = !p y) := fun y => by rw [← hp]; simp
  obtain ⟨R, hR⟩ : ∃ R, quorumOf old new (M.filter p) = R := ⟨_, rfl⟩
  rw [hR]
  have HR := hide hR
  clear hR
  obtain ⟨d0, d1, d2, d3⟩ := unhide SX w (Below.refl _ _)
  clear h1 h2 h3 h4 h5 h8 fz hM hp
  go_enter Try.func19, Try.ntmps19
  go_wp2_with fail
  refine (unhide ME).mono ?_
  rintro e w1 ⟨am, m, cm, rfl, hm, fm, b1⟩
  have EM := hide hm
  have FM := hide fm.1
  have B1 := hide b1
  have hm9 : m ≤ 9 := by omega
  clear hm fm b1 ME d0 d1 d2 d3 HL9
  go_wp2_with fail
  go_loopw [5, 3] (fun i s wr => ∃ (k : Nat), k ≤ m ∧ i = .int .i64 k ∧ Ir w1.heap.size wr s ((M.take k).filter p) ∧ Below w1.heap.size w1 wr) (fun i _ _ => m - (intOf i).toNat)
  case atStart => exact ⟨0, Nat.zero_le _, rfl, by simp; exact Ir.nil _ _, Below.refl _ _⟩
  case round =>
    obtain ⟨k, hk, rfl, hown, hbel1⟩ := hrel
    have hbel := (unhide B1).trans (hbel1.mono (unhide B1).size)
    have hlen : ((M.take k).filter p).length ≤ k := Nat.le_trans (List.length_filter_le _ _) (by rw [List.length_take]; omega)
    have BEL := hide hbel
    have BEL1 := hide hbel1
    have HO := hide hown
    have sz := hbel1.size
    by_cases hlt : k < m
    · obtain ⟨a1, rfl, hc1⟩ := ((unhide FM).below hbel1) k (by rw [unhide EM]; exact hlt)
      have qk : (k : Int) < m := by omega
      have YES := hide (filter_yes (M := M) (p := p) (k := k) (by rw [unhide EM]; exact hlt))
      have NO := hide (filter_no (M := M) (p := p) (k := k) (by rw [unhide EM]; exact hlt))
      obtain ⟨id, hxk⟩ : ∃ id, M.getD k 0 = id := ⟨_, rfl⟩
      rw [hxk] at hc1 YES NO
      have SY := hide (fun (Y : World) (h : Below wr.heap.size wr Y) => show Y.cell? ⟨q, 3, none⟩ = some (.slice az no'.length pz) ∧ Y.cell? (a1.add k) = some (.int .i64 id) from ⟨(unhide SX Y ((unhide BEL).trans (h.mono (unhide BEL).size))).2.2.2, (h.cell (blk_lt hc1)).trans hc1⟩)
      have CC := hide (fun (Y : World) (h : Below wr.heap.size wr Y) => unhide IZ Y ((unhide BEL).trans (h.mono (unhide BEL).size)) id)
      rw [unhide HP id] at CC
      obtain ⟨l, hll⟩ : ∃ l, (M.take k).filter p = l := ⟨_, rfl⟩
      rw [hll] at HO YES NO hlen
      obtain ⟨r, hr⟩ : ∃ r, p id = r := ⟨_, rfl⟩
      rw [hr] at CC YES NO
      have EZ := hide (Below.refl wr.heap.size wr).drew
      clear hown hxk hll hbel hbel1 hr hc1
      go_upto_region 6 with fail
      cases r
      · have N1 := hide (unhide NO rfl)
        clear YES NO hlen
        first
        | (go_region_held_law (fun Y => Y.cell? ⟨q, 3, none⟩ = some (.slice az no'.length pz) ∧ Y.cell? (a1.add k) = some (.int .i64 id))
            (first | exact unhide SY _ (unhide EZ))
            (first
              | (go_at_call 38
                 refine (unhide CC _ (unhide EZ)).mono ?_
                 rintro e wz ⟨rfl, bz⟩
                 have E0 := hide ((unhide EZ).trans (bz.mono (unhide EZ).size))
                 clear EZ
                 have EZ := E0
                 clear E0 bz)))
        | fail
        have B2 := hide ((unhide BEL1).trans ((unhide EZ).mono sz))
        have O2 := hide ((unhide HO).below (unhide EZ))
        go_wp2
        go_roundw
        case rel => exact ⟨k + 1, by omega, by go_num, by rw [unhide N1]; exact unhide O2, unhide B2⟩
        case measure => simp [intOf]; omega
      · have N1 := hide (unhide YES rfl)
        have HLN : Hid (l.length + 1 ≤ 1000000000) := by show _ ≤ _; omega
        clear YES NO hlen
        first
        | (go_region_held_law (fun Y => Y.cell? ⟨q, 3, none⟩ = some (.slice az no'.length pz) ∧ Y.cell? (a1.add k) = some (.int .i64 id))
            (first | exact unhide SY _ (unhide EZ))
            (first
              | (go_at_call 38
                 refine (unhide CC _ (unhide EZ)).mono ?_
                 rintro e wz ⟨rfl, bz⟩
                 have E0 := hide ((unhide EZ).trans (bz.mono (unhide EZ).size))
                 clear EZ
                 have EZ := E0
                 clear E0 bz)))
        | fail
        have B2 := hide ((unhide BEL1).trans ((unhide EZ).mono sz))
        have O2 := hide ((unhide HO).below (unhide EZ))
        have s2 := (unhide B2).size
        obtain ⟨-, hc2⟩ := unhide SY _ (unhide EZ)
        go_wp2_with (at_builtin; refine wpList_app rfl (.tmp 27) (.tmp 32) rfl w1.heap.size _ l rfl ((unhide O2).below ((Below.refl _ _).alloc (Nat.le_refl _) _)) (some ⟨wz.heap.size, 0, none⟩) 1 1 [id] rfl rfl (one_int _ _) (unhide HLN) (by simp; omega) ?_)
        intro v' w' own' g'
        have OWN := hide own'
        have B' := hide (((unhide O2).below ((Below.refl _ _).alloc (Nat.le_refl _) (.cells #[.int .i64 id] 3))).grown g' ((unhide B2).alloc s2 _) (by simp; omega))
        clear own' g'
        go_wp2
        go_roundw
        case rel => exact ⟨k + 1, by omega, by go_num, by rw [unhide N1]; exact unhide OWN, unhide B'⟩
        case measure => simp [intOf]; omega
    · obtain rfl : k = m := by omega
      have et : M.take k = M := by rw [← unhide EM, List.take_length]
      rw [et] at hown
      obtain ⟨ay, dy, rfl, fy, -, -⟩ := hown.slice
      obtain ⟨m9, hm9'⟩ : ∃ m9, (M.filter p).length = m9 := ⟨_, rfl⟩
      have QX := hide (unhide QU _ hbel ay m9 dy _ hm9' (by rw [et] at hlen; omega) fy.1)
      rw [unhide HR] at QX
      rw [hm9']
      obtain ⟨d0, d1, d2, d3⟩ := unhide SX _ hbel
      clear hown hlen hbel hbel1 fy et hm9' HR HO
      go_wp2_with fail
      refine (unhide QX).mono ?_
      rintro e w5 ⟨rfl, b5⟩
      have E5 := hide ((unhide BEL).trans (b5.mono (unhide BEL).size))
      clear b5 QX
      go_wp2
      go_ret
      exact ⟨rfl, unhide E5⟩
end Go.Proofs.Ytjcidihcmbenhaa
