/- synodallaw17's known: a contract. conf.Same and the reference's: contracts. What the walks of the law share. synodallaw8's within: a contract. -/
import Derived.Test.YtgllokinadjiaaaGreatDoorSFit
import Derived.Test.YtgllokinadjiaaaGreatDoorKPlain
import Derived.Test.YtgllokinadjiaaaGreatDoorNBase
namespace Go.Proofs.YtgllokinadjiaaaGreatDoor
open Go.RowKit Go.Maps

theorem eq_ptr_nil (p : Nat) (w : World) : (binOp .eql 30 (.pointer (some ⟨p, 0, none⟩)) (.pointer none)).run Tryz.prog w = .ok (.bool false) w := by kernel_rfl
theorem ints_at (w : World) (y : Int) : IntsR (w.alloc (.cells #[.int .i64 y] 3)) (some ⟨w.heap.size, 0, none⟩) [y] := one_int w y
def g1 : Gn := ⟨1, 1, 0, [0]⟩
def g2 : Gn := ⟨2, 2, 5, [0]⟩
theorem known_new : wrongG [] g1.n g1.eng g1.base [] g1.ms = 0 := by decide
theorem known_seal : sealNo [g1] g1 5 2 [] [0] = 0 := by decide
theorem known_gs : [g1] ++ [(⟨IntKind.i64.wrap (g1.n + 1), 2, 5, [0]⟩ : Gn)] = [g1, g2] := rfl
set_option maxRecDepth 20000 in
set_option maxHeartbeats 4000000 in
theorem known_any (w : World) : Calls Tryz.prog 5 #[] w fun e w' => e = .returned (.bool true) ∧ Below w.heap.size w w' := by
  obtain ⟨W0, hW0⟩ : ∃ W, w.alloc (.cells #[.int .i64 0] 3) = W := ⟨_, rfl⟩
  obtain ⟨W, hW⟩ : ∃ W, W0.alloc (.cells #[.slice none 0 0, .slice (some ⟨w.heap.size, 0, none⟩) 1 1] 24) = W := ⟨_, rfl⟩
  have b0 : Below w.heap.size w W0 := by rw [← hW0]; exact (Below.refl _ _).alloc (Nat.le_refl _) _
  have b1 : Below W0.heap.size W0 W := by rw [← hW]; exact (Below.refl _ _).alloc (Nat.le_refl _) _
  have s0 : W0.heap.size = w.heap.size + 1 := by rw [← hW0]; simp
  have bW := below_far b0 b1
  have xW : W.heap[w.heap.size + 1]? = some (.cells #[.slice none 0 0, .slice (some ⟨w.heap.size, 0, none⟩) 1 1] 24 (0, 0)) := by rw [← s0, ← hW]; exact box_at _ _
  have iW : IntsR W (some ⟨w.heap.size, 0, none⟩) [0] := by
    have := ints_at w 0
    rw [hW0] at this
    exact this.below b1
  have HW : Hid ((w.alloc (.cells #[.int .i64 0] 3)).alloc (.cells #[.slice none 0 0, .slice (some ⟨w.heap.size, 0, none⟩) 1 1] 24) = W) := by rw [hW0]; exact hW
  have CN := hide (new_ok W g1 none (some ⟨w.heap.size, 0, none⟩) 0 0 1 1 [] rfl rfl (by decide) (by decide) (IntsR.nil _ _) iW known_new)
  unfold g1 at CN
  simp only at CN
  have k0 : W.cell? ⟨w.heap.size + 1, 0, none⟩ = some (.slice none 0 0) := (cell_of_block xW).trans rfl
  have k1 : W.cell? ⟨w.heap.size + 1, 1, none⟩ = some (.slice (some ⟨w.heap.size, 0, none⟩) 1 1) := (cell_of_block xW).trans rfl
  have XW := hide xW
  have BW := hide bW
  have IW := hide iW
  have QN := eq_ptr_nil
  have FN := field_n
  clear hW hW0 b0 b1 s0 bW xW iW
  go_enter Tryz.func5, Tryz.ntmps5
  go_upto_region 2 with fail
  rw [unhide HW]
  go_wp2_with fail
  refine (unhide CN).mono ?_
  clear k0 k1
  rintro e w1 ⟨p, D, rfl, hg, hD, b1⟩
  have k0 : w1.cell? ⟨w.heap.size + 1, 0, none⟩ = some (.slice none 0 0) := (cell_of_block (Below.stay b1 (unhide XW))).trans rfl
  have k1 : w1.cell? ⟨w.heap.size + 1, 1, none⟩ = some (.slice (some ⟨w.heap.size, 0, none⟩) 1 1) := (cell_of_block (Below.stay b1 (unhide XW))).trans rfl
  have CS := hide (seal_ok (l := g1) hg (by decide) rfl 5 2 none (some ⟨w.heap.size, 0, none⟩) 0 0 1 1 [] [0] rfl rfl (by decide) (by decide) (IntsR.nil _ _) ((unhide IW).below b1) known_seal)
  have B1 := hide (below_far (unhide BW) b1)
  have HD := hide (fun k hk => Nat.le_trans (unhide BW).size (hD k hk))
  clear hg hD b1 CN
  go_wp2_with fail
  refine (unhide CS).mono ?_
  clear k0 k1
  rintro e w2 ⟨rfl, hg, kp⟩
  replace hg : Gs (News D w1 w2) w2 p [g1, g2] := hg
  have B2 := hide ((unhide B1).trans (kp.below (base := w.heap.size) (unhide HD) (unhide B1).size))
  have HG := hide hg
  have C5 := hide (at_any hg (by decide) (by decide) 5)
  rw [show atOf [g1, g2] 5 = g1 from rfl] at C5
  unfold gnV g1 at C5
  simp only at C5
  clear hg kp CS
  go_wp2_with fail
  refine (unhide C5).mono ?_
  rintro e w3 ⟨mo, mc, rfl, -, b3⟩
  have B3 := hide (below_far (unhide B2) b3)
  have C6 := hide (at_any ((unhide HG).below b3) (by decide) (by decide) 6)
  rw [show atOf [g1, g2] 6 = g2 from rfl] at C6
  unfold gnV g2 at C6
  simp only at C6
  clear b3 C5
  go_wp2_with fail
  refine (unhide C6).mono ?_
  rintro e w4 ⟨mo', mc', rfl, -, b4⟩
  have B4 := hide (below_far (unhide B3) b4)
  clear b4 C6
  go_wp2
  go_ret
  exact ⟨rfl, unhide B4⟩
end Go.Proofs.YtgllokinadjiaaaGreatDoor
namespace Go.Proofs.YtgllokinadjiaaaGreatDoor
open Go.RowKit

def sameOf (old new old' new' : List Int) : Bool := decide (old = old') && decide (new = new')
set_option maxHeartbeats 1000000 in
theorem rsame_any (ao an bo bn : Option Addr) (no nn co cn mo mn po pn : Nat) (old new old' new' : List Int) (hno : old.length = no) (hnn : new.length = nn) (hmo : old'.length = mo) (hmn : new'.length = mn) (hlo : no ≤ 1000000) (hln : nn ≤ 1000000) (w : World) (ho : IntsR w ao old) (hw : IntsR w an new) (ho' : IntsR w bo old') (hw' : IntsR w bn new') :
    Calls Tryz.prog 35 #[.agg #[.slice ao no co, .slice an nn cn], .agg #[.slice bo mo po, .slice bn mn pn]] w fun e w' => e = .returned (.bool (sameOf old new old' new')) ∧ Below w.heap.size w w' := by
  obtain ⟨W0, hW0, bW0, xW0, sW0⟩ := boxed w (.slice ao no co) (.slice an nn cn)
  obtain ⟨W, hW, bW1, xW1, _⟩ := boxed W0 (.slice bo mo po) (.slice bn mn pn)
  have bW := bW0.trans (bW1.mono bW0.size)
  have E0 := hide (ysame_any ao bo no mo co po old old' hno hmo (by omega) W (ho.below bW) (ho'.below bW))
  have E1 := hide (fun (Y : World) (h : Below W.heap.size W Y) => ysame_any an bn nn mn cn pn new new' hnn hmn (by omega) Y ((hw.below bW).below h) ((hw'.below bW).below h))
  obtain ⟨R, hR⟩ : ∃ R, sameOf old new old' new' = R := ⟨_, rfl⟩
  rw [hR]
  obtain ⟨r0, h0⟩ : ∃ r0, decide (old = old') = r0 := ⟨_, rfl⟩
  obtain ⟨r1, h1⟩ : ∃ r1, decide (new = new') = r1 := ⟨_, rfl⟩
  have HR : Hid ((r0 && r1) = R) := by
    show _ = _
    rw [← hR, ← h0, ← h1]; rfl
  rw [h0] at E0
  rw [h1] at E1
  have HW : Hid ((w.alloc (.cells #[.slice ao no co, .slice an nn cn] 24)).alloc (.cells #[.slice bo mo po, .slice bn mn pn] 24) = W) := by rw [hW0]; exact hW
  have BW := hide bW
  have XA := hide (Below.stay bW1 xW0)
  rw [sW0] at xW1
  have XB := hide xW1
  clear hW bW hW0 bW0 bW1 xW0 xW1 sW0 hR h0 h1 ho hw hno hnn hmo hmn ho' hw'
  go_enter Tryz.func35, Tryz.ntmps35
  go_wp2_with fail
  rw [unhide HW]
  refine (unhide E0).mono ?_
  rintro e w1 ⟨rfl, b1⟩
  have B1 := hide ((unhide BW).trans (b1.mono (unhide BW).size))
  obtain ⟨c0, c1⟩ := two_cells (Below.stay b1 (unhide XA))
  obtain ⟨d0, d1⟩ := two_cells (Below.stay b1 (unhide XB))
  have E2 := hide (unhide E1 _ b1)
  clear b1 E0 E1 HW
  cases r0
  · obtain rfl : false = R := unhide HR
    clear HR
    go_wp2
    go_ret
    exact ⟨rfl, unhide B1⟩
  · obtain rfl : r1 = R := unhide HR
    clear HR
    go_wp2_with fail
    refine (unhide E2).mono ?_
    rintro e w2 ⟨rfl, b2⟩
    have B2 := hide ((unhide B1).trans (b2.mono (unhide B1).size))
    clear b2 E2
    go_wp2
    go_ret
    exact ⟨rfl, unhide B2⟩

end Go.Proofs.YtgllokinadjiaaaGreatDoor
namespace Go.Proofs.YtgllokinadjiaaaGreatDoor
open Go.RowKit Go.Maps
attribute [local go_sem ↓] Go.wp_at_zero Go.wp_at_succ

/-- a row of the call's own, at its first place. -/
theorem Ir.first {base : Nat} {w : World} {mo : Option Addr} {n mc : Nat} {ys : List Int} (h : Ir base w (.slice mo n mc) ys) (hy : ys ≠ []) : ∃ g cs, mo = some ⟨g, 0, none⟩ ∧ base ≤ g ∧ w.heap[g]? = some (.cells cs 3 (0, 0)) ∧ w.cell? ⟨g, 0, none⟩ = some (.int .i64 (ys.getD 0 0)) := by
  obtain ⟨ao, cap, e, hf, _⟩ := h.slice
  cases e
  rcases h.2 with ⟨e1, e2⟩ | ⟨g, cap', cur, e1, e2, e3, _⟩
  · exact absurd (List.eq_nil_of_length_eq_zero e2) hy
  · cases e1
    obtain ⟨a, ea, hc⟩ := hf.1 0 (List.length_pos_iff.2 hy)
    cases ea
    exact ⟨g, cur, rfl, e2, e3, by rw [Addr.add_lit] at hc; exact hc⟩
/-- a list of members that may be. -/
theorem check_plain (β : Nat → Bool) : checkOf [] (plainOf β) = 0 := check_good Up.nil (by decide) (plain_Up β) (plain_len β) (plain_ne β)
theorem wrong_plain (e b : Int) (he : e = 1 ∨ e = 2) (hb : 0 ≤ b) (n : Int) (hn : 1 ≤ n) (β : Nat → Bool) : wrongG [] n e b [] (plainOf β) = 0 := by
  unfold wrongG wrongB followsOf
  simp [check_plain, he, hb, hn]
theorem seal_plain {gs : List Gn} {l : Gn} (hl : gs[gs.length - 1]? = some l) (h60 : gs.length < 60) (e b : Int) (he : e = 1 ∨ e = 2) (hb : l.base < b) (β : Nat → Bool) : sealNo gs l b e [] (plainOf β) = 0 := by
  unfold sealNo wrongG wrongB followsOf
  simp [hl, check_plain, he, hb]
  omega
theorem field_conf (a b c : Int) (o m : Option Addr) (on oc mn mc : Nat) (W : World) : (Instr.field 26 (.agg #[.int .i64 a, .int .i64 b, .int .i64 c, .slice o on oc, .slice m mn mc]) 3).run Tryz.prog W = .ok (.agg #[.slice o on oc, .slice m mn mc]) W := by kernel_rfl
theorem rsame_self (bn an : Option Addr) (n cn pn : Nat) (ms : List Int) (hn : ms.length = n) (hl : n ≤ 1000000) (w : World) (h : IntsR w bn ms) (h' : IntsR w an ms) :
    Calls Tryz.prog 35 #[.agg #[.slice none 0 0, .slice bn n pn], .agg #[.slice none 0 0, .slice an n cn]] w fun e w' => e = .returned (.bool true) ∧ Below w.heap.size w w' := by
  refine (rsame_any none bn none an 0 n 0 pn 0 n 0 cn [] ms [] ms rfl hn rfl hn (by decide) hl w (IntsR.nil _ _) h (IntsR.nil _ _) h').mono ?_
  rintro e w' ⟨rfl, hb⟩
  exact ⟨by unfold sameOf; simp, hb⟩
theorem Kp.put (w : World) (g : Nat) (u : Value) : Kp (fun k => k = g) w (w.setCell ⟨g, 0, none⟩ u) := Kp.setCell (D := fun k => k = g) (Kp.refl _ _) (p := ⟨g, 0, none⟩) rfl u
/-- members that may be. -/
def Pl (ms : List Int) : Prop := Up ms ∧ ms.length ≤ 7 ∧ ms ≠ []
theorem Pl.pos {ms : List Int} (h : Pl ms) : 0 < ms.length := List.length_pos_iff.2 h.2.2
theorem Pl.check {ms : List Int} (h : Pl ms) : checkOf [] ms = 0 := check_good Up.nil (by decide) h.1 h.2.1 h.2.2
theorem Pl.check0 {ms : List Int} (h : Pl ms) : checkOf [0] ms = 0 := check_good ⟨by simp, by simp⟩ (by decide) h.1 h.2.1 h.2.2
theorem plain_pl (bits : Int) : ∃ ms, Pl ms ∧ ms = plainOf (bitOf bits) ∧ ∀ w, Calls Tryz.prog 10 #[.int .i64 bits] w fun e w' => ∃ an n c, e = .returned (.agg #[.slice none 0 0, .slice an n c]) ∧ ms.length = n ∧ n ≤ c ∧ Fr w' an ms ∧ Below w.heap.size w w' :=
  ⟨_, ⟨plain_Up _, plain_len _, plain_ne _⟩, rfl, fun w => plain_any bits w⟩
theorem wrong_pl {ms : List Int} (h : Pl ms) {n e b : Int} (he : e = 1 ∨ e = 2) (hb : 0 ≤ b) (hn : 1 ≤ n) : wrongG [] n e b [] ms = 0 := by
  unfold wrongG wrongB followsOf
  simp [h.check, he, hb, hn]
theorem seal_pl {ms : List Int} (h : Pl ms) {gs : List Gn} {l : Gn} (hl : gs[gs.length - 1]? = some l) (h60 : gs.length < 60) {e b : Int} (he : e = 1 ∨ e = 2) (hb : l.base < b) : sealNo gs l b e [] ms = 0 := by
  unfold sealNo wrongG wrongB followsOf
  simp [hl, h.check, he, hb]
  omega
end Go.Proofs.YtgllokinadjiaaaGreatDoor
namespace Go.Proofs.YtgllokinadjiaaaGreatDoor
open Go.RowKit

theorem within_any (n m : Int) (w : World) (h1 : 0 < m) (h2 : m ≤ 1000000000000) :
    Calls Tryz.prog 9 #[.int .i64 n, .int .i64 m] w fun ev w' => ev = .returned (.int .i64 (n % m)) ∧ w' = w := by
  have hb := Int.emod_nonneg n (show m ≠ 0 by omega)
  have hl := Int.emod_lt_of_pos n h1
  have ht : n.tmod m = n % m ∨ n.tmod m = n % m - m := by
    have h := @Int.tmod_eq_emod n m
    split at h
    · left; simpa using h
    · right; omega
  have hz : (m == 0) = false := by simp; omega
  by_cases hn : n.tmod m < 0
  · have he : n.tmod m + m = n % m := by omega
    have lo : -1000000000000 ≤ n.tmod m := by omega
    have HE := hide he
    clear ht he hb hl
    go_enter Tryz.func9, Tryz.ntmps9
    go_wp2
    go_ret
    refine ⟨ret_int ?_, rfl⟩
    exact unhide HE
  · have he : n.tmod m = n % m := by omega
    have HE := hide he
    clear ht he hb hl
    go_enter Tryz.func9, Tryz.ntmps9
    go_wp2
    go_ret
    refine ⟨ret_int ?_, rfl⟩
    exact unhide HE
theorem within_at (n m : Int) (k : Nat) (hk : n % m = k) (w : World) (h1 : 0 < m) (h2 : m ≤ 1000000000000) :
    Calls Tryz.prog 9 #[.int .i64 n, .int .i64 m] w fun ev w' => ev = .returned (.int .i64 (k : Int)) ∧ w' = w := by rw [← hk]; exact within_any n m w h1 h2
/-- within, its answer by a name. -/
theorem within_nat (n : Int) (m : Nat) (w : World) (h1 : 0 < m) (h2 : m ≤ 1000000000) : ∃ k : Nat, k < m ∧ Calls Tryz.prog 9 #[.int .i64 n, .int .i64 (m : Int)] w fun ev w' => ev = .returned (.int .i64 (k : Int)) ∧ w' = w := by
  have hb := Int.emod_nonneg n (show (m : Int) ≠ 0 by omega)
  have hl := Int.emod_lt_of_pos n (show (0 : Int) < m by omega)
  refine ⟨(n % (m : Int)).toNat, by omega, ?_⟩
  rw [show (((n % (m : Int)).toNat : Nat) : Int) = n % (m : Int) by omega]
  exact within_any n m w (by omega) (by omega)

end Go.Proofs.YtgllokinadjiaaaGreatDoor
