/- fault.Where along a chain of places: the places, the outermost first, in memory of the call's own. -/
import Derived.Test.YteabloaipoehoaaDoorFn
import Derived.Test.YteabloaipoehoaaDoorSmall
import Derived.WalkSmall
namespace Go.Proofs.YteabloaipoehoaaDoor
open Go.RowKit Go.Extern.Stop Go.Stop Go.Extern

theorem Tryd.info9 : (Tryd.prog.info? 9).map (fun i => (i.zero, i.size, i.bytes)) = some (some (.string ByteArray.empty), 1, 16) := by kernel_rfl

/-- what outermost finds. -/
def Head (w : World) (bv : Value) : List ByteArray → Value → Prop
  | [], p => p = .pointer none
  | q :: qs, p => ∃ b u, p = .pointer (some ⟨b, 0, none⟩) ∧ w.cell? ⟨b, 0, none⟩ = some (.string q) ∧ w.cell? ⟨b, 1, none⟩ = some u ∧ Chain w bv qs u

theorem outermost_chain (bv : Value) (hv : Base bv) (ps : List ByteArray) (v : Value) (w : World) (hg : Glob w) (w0 : World) (hc : Chain w0 bv ps v) :
    Calls Tryd.prog 20 #[v] w fun ev w' => ∃ p, ev = .returned p ∧ Below w.heap.size w w' ∧ Head w0 bv ps p := by
  cases ps with
  | nil =>
    obtain rfl := hc
    exact (outermost_base _ hv w hg).mono fun ev w' ⟨h1, h2⟩ => ⟨_, h1, h2, rfl⟩
  | cons q qs =>
    obtain ⟨b, u, rfl, c0, c1, h⟩ := hc
    exact (outermost_place _ w hg).mono fun ev w' ⟨h1, h2⟩ => ⟨_, h1, h2, b, u, rfl, c0, c1, h⟩

theorem one_new {W : World} {v : Value} : ∀ j u, [v][j]? = some u → (W.alloc (.cells #[v] 9)).cell? ((⟨W.heap.size, 0, none⟩ : Addr).add j) = some u := by
  intro j u hj
  match j, hj with
  | 0, hj => simp at hj; subst hj; simp [Addr.add]

theorem one_str (q : ByteArray) : ∀ u ∈ [Value.string q], u.oneCell' = true := by
  intro u hu; simp at hu; subst hu; rfl

theorem own_keep {w w' : World} {B : Nat} {e : TypeId} {size : Nat} {v : Value} {n : Nat} {xs : List Value} (h : w.ownsRow B e size v n xs) (hb : Below w.heap.size w w') : w'.ownsRow B e size v n xs :=
  h.kept (row := none) ⟨hb.os, hb.tape, hb.output, hb.size, fun k hk _ => hb.block k hk⟩ (by cases hv : v.ownBlock <;> simp)

set_option maxHeartbeats 1000000 in
theorem where_chain (bv : Value) (hv : Base bv) (ps : List ByteArray) (hlen : ps.length ≤ 1000) (v : Value) (w : World) (hg : Glob w) (hc : Chain w bv ps v) :
    Calls Tryd.prog 13 #[v] w fun ev w' => ∃ s, ev = .returned s ∧ w'.ownsRow w.heap.size 9 1 s ps.length (ps.map Value.string) ∧ Below w.heap.size w w' := by
  obtain ⟨i0, hi, hz0, hz1, hz2⟩ := info_parts Tryd.info9
  have HC := hide hc
  have HG := hide hg
  have HV := hide hv
  clear hc hg hv
  go_enter Tryd.func13, Tryd.ntmps13
  go_wp2_with fail
  refine (outermost_chain bv (unhide HV) ps v w (unhide HG) w (unhide HC)).mono ?_
  rintro e w1 ⟨p0, rfl, hb1, hh⟩
  have HH := hide hh
  have HB1 := hide hb1
  clear hh hb1
  go_wp2_with fail
  go_loopg [3, 4] ps.length (fun k pl p wr => ∃ done rest, ps = done ++ rest ∧ rest.length = k ∧ wr.ownsRow w.heap.size 9 1 pl done.length (done.map Value.string) ∧ Below w.heap.size w wr ∧ Head w bv rest p)
  case atStart => exact ⟨[], ps, rfl, rfl, World.ownsRow_nil _ _ _ _, HB1.out, HH.out⟩
  case round =>
    obtain ⟨done, rest, hps, hk, hown, hbel, hhd⟩ := hrel
    clear HB1 HH HC
    cases rest with
    | nil =>
      obtain rfl := hhd
      have E := hide hps
      clear hps hk
      have HO := hide hown
      clear hown
      go_wp2_with fail
      go_ret
      have e := unhide E
      rw [List.append_nil] at e
      rw [e]
      exact ⟨_, rfl, unhide HO, hbel⟩
    | cons q qs =>
      obtain ⟨b, u, rfl, c0, c1, hq⟩ := hhd
      have d0 : wr.cell? ⟨b, 0, none⟩ = some (.string q) := keep_below hbel _ _ _ c0
      have bl := blk_lt c0
      have HQ := hide hq
      have HP := hide hps
      have HK := hide hk
      have C1 := hide c1
      have hdl : done.length < ps.length := by rw [hps]; simp
      have hsz := hbel.size
      clear hq hps hk c0 c1
      go_wp2_with (at_builtin; refine wpList_append_own _ rfl _ _ 22 rfl w.heap.size 9 i0 (.string ByteArray.empty) 1 16 Tryd.underlying22 hi hz0 hz1 hz2 rfl (by decide) _ _ _ rfl (hown.alloc _) ⟨wr.heap.size, 0, none⟩ 1 1 [.string q] rfl rfl one_new (one_str q) (by unfold maxLen; omega) (by omega) (by simp; omega) ?_)
      intro v' w2 hown' hgrow _
      have hb2 : Below w.heap.size w w2 := (hbel.alloc hsz _).grown hgrow (by simp; omega) (fun k hk => (hown.lt k hk).1)
      have d1 : w2.cell? ⟨b, 1, none⟩ = some u := keep_below hb2 _ _ _ (unhide C1)
      have HO : Hid (w2.ownsRow w.heap.size 9 1 v' (done ++ [q]).length ((done ++ [q]).map Value.string)) := by simpa [Hid] using hown'
      have HB2 := hide hb2
      clear hown' hgrow hown d0 C1 hbel
      go_wp2_with fail
      refine (outermost_chain bv (unhide HV) qs u w2 (Glob.below (unhide HG) (unhide HB2)) w (unhide HQ)).mono ?_
      rintro e w3 ⟨p3, rfl, hb3, hh3⟩
      have HH := hide hh3
      have HB3 := hide hb3
      clear hh3 hb3
      go_wp2_with fail
      go_roundg qs.length
      case measure => have := unhide HK; simp at this; omega
      case rel =>
        refine ⟨done ++ [q], qs, ?_, rfl, ?_, (unhide HB2).trans ((unhide HB3).mono (unhide HB2).size), unhide HH⟩
        · rw [unhide HP]; simp
        · exact own_keep (unhide HO) (unhide HB3)
end Go.Proofs.YteabloaipoehoaaDoor
