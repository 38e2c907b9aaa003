/- SealPlays: both seals, and all that is asked behind them, as contracts over every later world. -/
import Derived.Test.YtgllokinadjiaaaGreatDoorSXPlB
namespace Go.Proofs.YtgllokinadjiaaaGreatDoor
open Go.RowKit Go.Maps
open Ww (Own Bytes)

/-- between the round's seals. -/
structure Mid (b0 : Nat) (G : Nat → Prop) (w6 z : World) (p x : Nat) (gs hs : List Gn) : Prop where
  pl : PlS b0 G z p x gs hs
  bl : Below b0 w6 z
  same : ∀ k, G k → z.heap[k]? = w6.heap[k]?
theorem InF.like {G : Nat → Prop} {w z : World} {ao : Option Addr} {ys : List Int} (h : InF G w ao ys) (hs : ∀ k, G k → z.heap[k]? = w.heap[k]?) : InF G z ao ys := fun i hi => by
  obtain ⟨a, e1, e2, e3⟩ := h i hi
  refine ⟨a, e1, e2, ?_⟩
  rw [← e3]
  have hb : (a.add i).block = a.block := add_block a i
  have hk := hs _ e2
  rw [← hb] at hk
  unfold World.cell?
  rw [hk]
theorem Mid.sealA {b0 : Nat} {G : Nat → Prop} {w6 z : World} {p x : Nat} {gs hs : List Gn} (h : Mid b0 G w6 z p x gs hs) (hl : gs.length ≤ 1000) {l : Gn} (hg : gs[gs.length - 1]? = some l) (index eng : Int) (xo mo : Option Addr) (xn xc m mc : Nat) (old new : List Int) (hno : old.length = xn) (hnn : new.length = m) (hlo : xn ≤ 1000) (hln : m ≤ 1000) (ho : InF G w6 xo old) (hw : InF G w6 mo new) {sn : Int} (hsn : sealNo gs l index eng old new = sn) {gs' : List Gn} (hgs : sealTo gs l index eng old new = gs') :
    Calls Tryz.prog 12 #[.pointer (some ⟨p, 0, none⟩), .int .i64 index, .int .i64 eng, .agg #[.slice xo xn xc, .slice mo m mc]] z fun r y => r = .returned (.int .i64 sn) ∧ Mid b0 G w6 y p x gs' hs := by
  subst hsn hgs
  refine (pls_seal h.pl hl hg index eng xo mo xn xc m mc old new hno hnn hlo hln (ho.like h.same).ints (hw.like h.same).ints).mono ?_
  rintro r y ⟨rfl, h1, h2, h3⟩
  exact ⟨rfl, h1, h.bl.trans h2, fun k hk => (h3 k hk).trans (h.same k hk)⟩
theorem Mid.sealX {b0 : Nat} {G : Nat → Prop} {w6 z : World} {p x : Nat} {gs hs : List Gn} (h : Mid b0 G w6 z p x gs hs) (hl : hs.length ≤ 1000) {l : Gn} (hg : hs[hs.length - 1]? = some l) (index eng : Int) (xo mo : Option Addr) (xn xc m mc : Nat) (old new : List Int) (hno : old.length = xn) (hnn : new.length = m) (hlo : xn ≤ 1000) (hln : m ≤ 1000) (ho : InF G w6 xo old) (hw : InF G w6 mo new) {sn : Int} (hsn : sealNo hs l index eng old new = sn) {hs' : List Gn} (hgs : sealTo hs l index eng old new = hs') :
    Calls Tryz.prog 13 #[.pointer (some ⟨x, 0, none⟩), .int .i64 index, .int .i64 eng, .agg #[.slice xo xn xc, .slice mo m mc]] z fun r y => r = .returned (.int .i64 sn) ∧ Mid b0 G w6 y p x gs hs' := by
  subst hsn hgs
  refine (pls_xseal h.pl hl hg index eng xo mo xn xc m mc old new hno hnn hlo hln (ho.like h.same).ints (hw.like h.same)).mono ?_
  rintro r y ⟨rfl, h1, h2, h3⟩
  exact ⟨rfl, h1, h.bl.trans h2, fun k hk => (h3 k hk).trans (h.same k hk)⟩
/-- a generation's two spellings are one. -/
theorem ans_same (g : Gn) {gn ge gb : Int} {z : Nat} (h1 : g.n = gn) (h2 : g.eng = ge) (h3 : g.base = gb) (h4 : g.ms.length = z) (hz : z ≤ 1000000) (Y : World) (b oo mx : Option Addr) (bc oc mc : Nat) (hb : IntsR Y b g.ms) (hx : IntsR Y mx g.ms) :
    Calls Tryz.prog 14 #[.agg #[.int .i64 gn, .int .i64 ge, .int .i64 gb, .slice none 0 0, .slice b z bc], .agg #[.int .i64 gn, .int .i64 ge, .int .i64 gb, .slice oo 0 oc, .slice mx z mc]] Y fun r w' => r = .returned (.bool true) ∧ Below Y.heap.size Y w' := by
  subst h1 h2 h3
  have := xsame_old g g b mx oo z z bc mc oc h4 h4 hz Y hb hx
  rw [gsame_self] at this
  exact this
theorem Ir.ints {base : Nat} {w : World} {ao : Option Addr} {n c : Nat} {ys : List Int} (h : Ir base w (.slice ao n c) ys) : IntsR w ao ys := by
  obtain ⟨ao', cap, e, h1, -⟩ := h.slice
  cases e
  exact h1.1
theorem ans_now {b0 : Nat} {F : Nat → Prop} {w : World} {p x : Nat} {gs : List Gn} (h : PlS b0 F w p x gs gs) (hg : GoodG gs) :
    ∃ (l : Gn) (gn ge gb : Int) (z : Nat) (oo mx : Option Addr) (oc mc : Nat), l.n = gn ∧ l.eng = ge ∧ l.base = gb ∧ l.ms.length = z ∧ z ≤ 1000000 ∧ IntsR w mx l.ms ∧ ∀ Y, Below w.heap.size w Y →
      (Calls Tryz.prog 15 #[.pointer (some ⟨p, 0, none⟩)] Y fun r w' => ∃ b c, r = .returned (.agg #[.int .i64 gn, .int .i64 ge, .int .i64 gb, .slice none 0 0, .slice b z c]) ∧ IntsR w' b l.ms ∧ Below Y.heap.size Y w') ∧
      Calls Tryz.prog 11 #[.pointer (some ⟨x, 0, none⟩)] Y fun r w' => r = .returned (.agg #[.int .i64 gn, .int .i64 ge, .int .i64 gb, .slice oo 0 oc, .slice mx z mc]) ∧ Below Y.heap.size Y w' := by
  obtain ⟨l, hl, -⟩ := hg.last
  obtain ⟨rv, hxg⟩ := h.xg
  obtain ⟨D, hgs⟩ := h.gs
  have h60 := hg.len
  obtain ⟨oo, oc, mx, mc, hin, hlen, CN⟩ := xnow_any hxg (by omega) hl
  refine ⟨l, l.n, l.eng, l.base, l.ms.length, oo, mx, oc, mc, rfl, rfl, rfl, rfl, by omega, hin.ints, fun Y hY => ⟨?_, CN Y hY⟩⟩
  refine (now_any (hgs.below hY) (by omega) hl).mono ?_
  rintro r w' ⟨b, rfl, h1, h2⟩
  exact ⟨_, _, rfl, h1.ints, h2⟩
/-- a row told by All. -/
def Grw (Y : World) (b : Option Addr) (n c : Nat) (gs : List Gn) : Prop := ∃ D, GRow D Y (.slice b n c) gs
theorem Grw.below {Y Z : World} {b : Option Addr} {n c : Nat} {gs : List Gn} (h : Grw Y b n c gs) (hb : Below Y.heap.size Y Z) : Grw Z b n c gs := by
  obtain ⟨D, h⟩ := h
  exact ⟨D, h.below hb⟩
theorem ans_all {b0 : Nat} {F : Nat → Prop} {w : World} {p x : Nat} {gs : List Gn} (h : PlS b0 F w p x gs gs) (hg : GoodG gs) {n : Nat} (hn : gs.length = n) :
    ∃ (ao : Option Addr) (cap : Nat), w.cell? ⟨x, 0, none⟩ = some (.slice ao n cap) ∧ ∀ Y, Below w.heap.size w Y →
      (Calls Tryz.prog 17 #[.pointer (some ⟨p, 0, none⟩)] Y fun r w' => ∃ b c, r = .returned (.slice b n c) ∧ Grw w' b n c gs ∧ Below Y.heap.size Y w') ∧
      ∀ b c, Grw Y b n c gs → Calls Tryz.prog 16 #[.slice b n c, .slice ao n cap] Y fun r w' => r = .returned (.bool true) ∧ Below Y.heap.size Y w' := by
  obtain ⟨rv, hxg⟩ := h.xg
  obtain ⟨D, hgs⟩ := h.gs
  have h60 := hg.len
  obtain ⟨ao, cap, rfl, -, -, -⟩ := hxg.row.slice
  have hb := hxg.box
  have hr := hxg.row
  rw [hn] at hb hr
  refine ⟨ao, cap, (cell_of_block hb).trans rfl, fun Y hY => ⟨?_, fun b c hG => ?_⟩⟩
  · refine (all_any (hgs.below hY) hn (by omega)).mono ?_
    rintro r w' ⟨b, rfl, h1, h2⟩
    exact ⟨_, _, rfl, ⟨_, h1⟩, h2⟩
  · obtain ⟨D', hG⟩ := hG
    exact lsame_eq gs n hn (by omega) b ao c cap Y hG (hr.below hY)
/-- All of what Load told. -/
theorem all_of {D : Nat → Prop} {w : World} {p : Nat} {gs : List Gn} (h : Gs D w p gs) {n : Nat} (hn : gs.length = n) (hl : n ≤ 1000000) (Y : World) (hY : Below w.heap.size w Y) :
    Calls Tryz.prog 17 #[.pointer (some ⟨p, 0, none⟩)] Y fun r w' => ∃ b c, r = .returned (.slice b n c) ∧ Grw w' b n c gs ∧ Below Y.heap.size Y w' := by
  refine (all_any (h.below hY) hn hl).mono ?_
  rintro r w' ⟨b, rfl, h1, h2⟩
  exact ⟨_, _, rfl, ⟨_, h1⟩, h2⟩
theorem ans_at {b0 : Nat} {F : Nat → Prop} {w : World} {p x : Nat} {gs : List Gn} (h : PlS b0 F w p x gs gs) (hg : GoodG gs) (k : Int) :
    ∃ (l : Gn) (gn ge gb : Int) (z : Nat), l.n = gn ∧ l.eng = ge ∧ l.base = gb ∧ l.ms.length = z ∧ z ≤ 1000000 ∧ ∀ Y, Below w.heap.size w Y →
      (Calls Tryz.prog 18 #[.pointer (some ⟨p, 0, none⟩), .int .i64 k] Y fun r w' => ∃ b c, r = .returned (.agg #[.int .i64 gn, .int .i64 ge, .int .i64 gb, .slice none 0 0, .slice b z c]) ∧ IntsR w' b l.ms ∧ Below Y.heap.size Y w') ∧
      Calls Tryz.prog 19 #[.pointer (some ⟨x, 0, none⟩), .int .i64 k] Y fun r w' => ∃ oo oc b c, r = .returned (.agg #[.int .i64 gn, .int .i64 ge, .int .i64 gb, .slice oo 0 oc, .slice b z c]) ∧ IntsR w' b l.ms ∧ Below Y.heap.size Y w' := by
  obtain ⟨rv, hxg⟩ := h.xg
  obtain ⟨D, hgs⟩ := h.gs
  have h60 := hg.len
  have hz : (atOf gs k).ms.length ≤ 1000000 := by
    unfold atOf
    cases hf : gs.reverse.find? _ with
    | none => simp [zeroGn]
    | some g =>
      have := (hg.ok g (by simpa using List.mem_of_find?_eq_some hf)).few
      simp; omega
  refine ⟨atOf gs k, _, _, _, _, rfl, rfl, rfl, rfl, hz, fun Y hY => ⟨?_, ?_⟩⟩
  · refine (at_any (hgs.below hY) hg.ne (by omega) k).mono ?_
    rintro r w' ⟨mo, mc, rfl, h1, h2⟩
    exact ⟨_, _, rfl, h1.ints, h2⟩
  · refine (xat_any (hxg.below hY) (by omega) k).mono ?_
    rintro r w' ⟨oo, oc, mo, mc, rfl, h1, -, h2⟩
    exact ⟨_, _, _, _, rfl, h1.ints, h2⟩
theorem ans_fence {b0 : Nat} {F : Nat → Prop} {w : World} {p x : Nat} {gs : List Gn} (h : PlS b0 F w p x gs gs) (hg : GoodG gs) (k : Int) :
    ∃ f : Int, ∀ Y, Below w.heap.size w Y →
      (Calls Tryz.prog 20 #[.pointer (some ⟨p, 0, none⟩), .int .i64 k] Y fun r w' => r = .returned (.int .i64 f) ∧ Below Y.heap.size Y w') ∧
      Calls Tryz.prog 21 #[.pointer (some ⟨x, 0, none⟩), .int .i64 k] Y fun r w' => r = .returned (.int .i64 f) ∧ Below Y.heap.size Y w' := by
  obtain ⟨l, hl, -⟩ := hg.last
  obtain ⟨rv, hxg⟩ := h.xg
  obtain ⟨D, hgs⟩ := h.gs
  have h60 := hg.len
  exact ⟨_, fun Y hY => ⟨fence_any (hgs.below hY) (by omega) hl k, xfence_any (hxg.below hY) (by omega) hl k⟩⟩
/-- bytes as a call told them, and the string that they are. -/
def Byt (Y : World) (b : Option Addr) (n c : Nat) (bs : List Nat) : Prop := Ww.Own 0 Y (.slice b n c) bs ∧ bs.length = n
theorem Byt.below {Y Z : World} {b : Option Addr} {n c : Nat} {bs : List Nat} (h : Byt Y b n c bs) (hb : Below Y.heap.size Y Z) : Byt Z b n c bs := ⟨h.1.below hb, h.2⟩
theorem Byt.conv {Y : World} {b : Option Addr} {n c : Nat} {bs : List Nat} (h : Byt Y b n c bs) {s : ByteArray} (hs : Ww.str bs = s) : (convert 53 9 (.slice b n c)).run Tryz.prog Y = .ok (.string s) Y := by
  subst hs
  obtain ⟨ao, cap, e, -, -, hb, -⟩ := h.1.slice
  cases e
  exact Ww.conv_str hb h.2
theorem ans_save {b0 : Nat} {F : Nat → Prop} {w : World} {p x : Nat} {gs : List Gn} (h : PlS b0 F w p x gs gs) (hg : GoodG gs) (hS : Ww.Start w) :
    ∃ nb : Nat, (saveBytes gs).length = nb ∧ ∀ Y, Below w.heap.size w Y →
      (Calls Tryz.prog 22 #[.pointer (some ⟨p, 0, none⟩)] Y fun r w' => ∃ b c, r = .returned (.slice b nb c) ∧ Byt w' b nb c (saveBytes gs) ∧ Below Y.heap.size Y w') ∧
      Calls Tryz.prog 23 #[.pointer (some ⟨x, 0, none⟩)] Y fun r w' => ∃ b c, r = .returned (.slice b nb c) ∧ Byt w' b nb c (saveBytes gs) ∧ Below Y.heap.size Y w' := by
  obtain ⟨rv, hxg⟩ := h.xg
  obtain ⟨D, hgs⟩ := h.gs
  have h60 := hg.len
  have h7 : ∀ g ∈ gs, g.ms.length ≤ 7 := fun g hm => (hg.ok g hm).few
  refine ⟨_, rfl, fun Y hY => ⟨?_, ?_⟩⟩
  · refine (save_any (hgs.below hY) rfl (by omega) h7 (hS.below hY)).mono ?_
    rintro r w' ⟨v, rfl, h1, h2⟩
    obtain ⟨ao, cap, rfl, -⟩ := h1.slice
    exact ⟨_, _, rfl, ⟨own_less h1 (Nat.zero_le _), rfl⟩, h2⟩
  · refine (xsave_any (hxg.below hY) rfl (by omega) h7).mono ?_
    rintro r w' ⟨v, rfl, h1, h2⟩
    obtain ⟨ao, cap, rfl, -⟩ := h1.slice
    exact ⟨_, _, rfl, ⟨own_less h1 (Nat.zero_le _), rfl⟩, h2⟩
theorem ans_load {gs : List Gn} (hg : GoodG gs) (Y : World) (hS : Ww.Start Y) (b : Option Addr) (n c : Nat) (hb : Byt Y b n c (saveBytes gs)) :
    Calls Tryz.prog 24 #[.slice b n c] Y fun x w' => ∃ p D, x = .returned (.tuple #[.pointer (some ⟨p, 0, none⟩), .int .i64 0]) ∧ Gs D w' p gs ∧ (∀ k, D k → Y.heap.size ≤ k) ∧ Below Y.heap.size Y w' :=
  load_saved hg.ok hg.ne hg.len hg.fit Y 0 b n c hb.1 hb.2 hS
/-- a configuration of the caller's, laid into a box of the walk's own. -/
theorem cfg_take {F : Nat → Prop} {w wo z : World} {B : Nat} {v0 v1 : Value} (hx : z.heap[B]? = some (.cells #[v0, v1] 24 (0, 0))) (hB : wo.heap.size < B) (bz : Below wo.heap.size wo z) (bw : Below w.heap.size w wo) (hF : ∀ k, k < w.heap.size → F k) {xo mo : Option Addr} {xn xc m mc : Nat} {old new : List Int} (ho : IntsR w xo old) (hn : IntsR w mo new) (h1 : old.length = xn) (h2 : new.length = m) (h3 : xn ≤ 1000) (h4 : m ≤ 1000) :
    CfgAt F wo B ((z.setCell ⟨B, 0, none⟩ (.slice xo xn xc)).setCell ⟨B, 1, none⟩ (.slice mo m mc)).drew xo mo xn xc m mc old new := by
  have hK := two_kp z B (.slice xo xn xc) (.slice mo m mc)
  have xK := two_put (a := .slice xo xn xc) (b := .slice mo m mc) hx
  obtain ⟨U, hU⟩ : ∃ U, ((z.setCell ⟨B, 0, none⟩ (.slice xo xn xc)).setCell ⟨B, 1, none⟩ (.slice mo m mc)) = U := ⟨_, rfl⟩
  rw [hU] at hK xK ⊢
  have bU : Below wo.heap.size wo U := bz.trans (hK.below (fun k hk => by rw [hk]; omega) bz.size)
  have iK : ∀ (ao : Option Addr) (ys : List Int), IntsR w ao ys → InF (fun k => F k ∨ (wo.heap.size ≤ k ∧ k < U.drew.heap.size)) U.drew ao ys := fun ao ys hi i hh => by
    obtain ⟨a, e1, e2⟩ := hi i hh
    have hl := blk_lt e2
    have hb : (a.add i).block = a.block := add_block a i
    refine ⟨a, e1, Or.inl (hF _ (by rw [hb] at hl; exact hl)), ?_⟩
    have hs := bw.size
    have e3 := (below_far bw bz).cell hl
    have e4 : U.heap[(a.add i).block]? = z.heap[(a.add i).block]? := hK.2 _ (Nat.lt_of_lt_of_le hl (Nat.le_trans hs bz.size)) (by omega)
    rw [← e2, ← e3]
    show U.cell? _ = _
    unfold World.cell?
    rw [e4]
  exact ⟨xK, h1, h2, h3, h4, iK _ _ ho, iK _ _ hn, bU.drew⟩
end Go.Proofs.YtgllokinadjiaaaGreatDoor
