/- call: a contract. -/
import Derived.Test.YtndpkpkijfplaaaGRead
namespace Go.Proofs.Ytndpkpkijfplaaa
open Go.RowKit Go.Maps
attribute [local go_sem ↓] Go.wp_at_zero Go.wp_at_succ

theorem KnA.store_call {A w : World} {p a b d n : Nat} {S : Kn} (h : KnA A w p a b d n S) {c s : Int} (hc : wf64 c) (hs : wf64 s) {e : En} {mo : Option Addr} (mc : Nat) (he : EnA A e mo) (hn : n < 1000000000) :
    ∃ w', (Instr.mapUpdate 56 (.map (some a)) (.agg #[.int .i64 c, .int .i64 s]) (.agg #[.int .i64 e.kind, .int .i64 e.client, .int .i64 e.seq, .string e.text, .slice mo e.ms.length mc, .int .i64 e.dest])).run Try.prog w = .ok () w' ∧ KnA A w' p a b d (n + 1) ⟨upd2 S.calls c s e, S.place, S.holder⟩ ∧ Kp (fun k => k = a) w w' := by
  obtain ⟨w', r1, r2, r3⟩ := h.calls.store hc hs mc he hn
  have hne := h.ne
  obtain ⟨f1, f2, f3, f4, f5, f6, f7⟩ := h.far
  obtain ⟨-, ⟨e2, c2, o2⟩, e3, c3, o3⟩ := h.objs
  refine ⟨w', r1, ⟨?_, r2, (h.place.stay ?_).mono (Nat.le_succ _), (h.holder.stay ?_).mono (Nat.le_succ _), h.far⟩, (Kp.refl _ w).grown r3 (fun k _ e => by cases e; rfl)⟩
  · exact (r3.block p (heap_lt h.box) (fun e => by cases e; exact hne.1 rfl)).trans h.box
  · exact r3.block b (heap_lt o2) (fun e => by cases e; exact f5 rfl)
  · exact r3.block d (heap_lt o3) (fun e => by cases e; exact f6 rfl)
set_option maxRecDepth 20000 in
set_option maxHeartbeats 4000000 in
/-- call over any request and any entry. -/
theorem call_any {A w : World} {p a b d n : Nat} {S : Kn} (h : KnA A w p a b d n S) (hA : Below A.heap.size A w) {c s : Int} (hc : wf64 c) (hs : wf64 s) {e : En} {mo : Option Addr} (mc : Nat) (he : EnA A e mo) (hn : n < 1000000000) :
    Calls Try.prog 27 #[.pointer (some ⟨p, 0, none⟩), .agg #[.int .i64 c, .int .i64 s], .agg #[.int .i64 e.kind, .int .i64 e.client, .int .i64 e.seq, .string e.text, .slice mo e.ms.length mc, .int .i64 e.dest]] w fun x w' => (S.call c s e = none ∧ x = .returned (.bool false) ∨ ∃ S', S.call c s e = some S' ∧ x = .returned (.bool true) ∧ KnA A w' p a b d (n + 1) S') ∧ Kp (fun k => k = a) w w' := by
  obtain ⟨W, hW⟩ : ∃ W, w.alloc (.cells #[.int .i64 c, .int .i64 s] 62) = W := ⟨_, rfl⟩
  have bW : Below w.heap.size w W := by rw [← hW]; exact (Below.refl _ w).alloc (Nat.le_refl _) _
  have xW : W.heap[w.heap.size]? = some (.cells #[.int .i64 c, .int .i64 s] 62 (0, 0)) := by rw [← hW]; exact box_at _ _
  have sW : W.heap.size = w.heap.size + 1 := by rw [← hW]; simp
  obtain ⟨V, hV, bV, yV⟩ := boxE W e mo mc
  rw [sW] at yV
  have xV := Below.stay bV xW
  have bb := below_far bW bV
  have kV := h.below bb
  obtain ⟨B, hB⟩ : ∃ B, w.heap.size = B := ⟨_, rfl⟩
  rw [hB] at xV yV
  have SSF : Hid (∀ (Y : World), Below V.heap.size V Y → Y.cell? ⟨B, 0, none⟩ = some (.int .i64 c) ∧ Y.cell? ⟨B, 1, none⟩ = some (.int .i64 s) ∧ Y.cell? ⟨B + 1, 0, none⟩ = some (.int .i64 e.kind) ∧ Y.cell? ⟨B + 1, 1, none⟩ = some (.int .i64 e.client) ∧ Y.cell? ⟨B + 1, 2, none⟩ = some (.int .i64 e.seq) ∧ Y.cell? ⟨B + 1, 3, none⟩ = some (.string e.text) ∧ Y.cell? ⟨B + 1, 4, none⟩ = some (.slice mo e.ms.length mc) ∧ Y.cell? ⟨B + 1, 5, none⟩ = some (.int .i64 e.dest)) := fun Y hY => by
    have hx := Below.stay hY xV
    obtain ⟨z0, z1, z2, z3, z4, z5⟩ := six_of (Below.stay hY yV)
    exact ⟨(cell_of_block hx).trans rfl, (cell_of_block hx).trans rfl, z0, z1, z2, z3, z4, z5⟩
  have bD : Below V.heap.size V V.drew := (Below.refl _ V).drew
  have SD := hide (unhide SSF _ bD)
  have RD := hide (requestOf_any e mo mc V.drew)
  have BD := hide bD
  have HW := hide hW
  have HV := hide hV
  have KV := hide kV
  have BB := hide bb
  have HA := hide hA
  have EA := hide he
  have WF : Hid (wf64 c ∧ wf64 s) := ⟨hc, hs⟩
  have HB := hide hB
  clear bD hW hV kV bb hA he hc hs xW xV yV bW bV h sW
  by_cases hq : isReq e.kind
  · have IR : Hid (∀ Y : World, Calls Try.prog 35 #[.int .i64 e.kind] Y fun x w' => x = .returned (.bool true) ∧ w' = Y) := fun Y => by
      have := isRequest_any e.kind Y
      rw [decide_eq_true hq] at this
      exact this
    have HQ := hide hq
    clear hq
    go_enter Try.func27, Try.ntmps27
    go_upto_region 1 with fail
    rw [unhide HW]
    rw [unhide HV]
    go_cut [28] (fun t wc => t = .bool (decide (¬ mayCall c s e)) ∧ Below V.heap.size V wc)
    case first =>
      by_cases hc1 : e.client = c
      · subst hc1
        by_cases hs1 : e.seq = s
        · subst hs1
          by_cases g1 : e.client < 1
          · have HG := hide g1
            have hmc : decide (¬ mayCall e.client e.seq e) = true := decide_eq_true (fun h => by have := h.2.2.2.1; omega)
            have HMC := hide hmc
            clear hmc
            obtain ⟨d0, d1, d2, d3, d4, d5, d6, d7⟩ := unhide SD
            first
            | go_region_with (first
              | (go_at_call 35
                 with_reducible refine (unhide IR _).mono ?_
                 rintro z w1 ⟨rfl, rfl⟩)
              | (go_at_call 36
                 with_reducible refine (unhide RD).mono ?_
                 rintro z w1 ⟨rfl, b1⟩
                 have bw1 := below_far (unhide BD) b1
                 obtain ⟨f0, f1, f2, f3, f4, f5, f6, f7⟩ := unhide SSF w1 bw1
                 have E3 := hide bw1
                 clear b1 bw1)
              | fail)
            | fail
            all_goals go_wp2
            all_goals go_meet
            all_goals exact ⟨by rw [unhide HMC], unhide E3⟩
          · by_cases g2 : e.seq < 1
            · skip
              have hmc : decide (¬ mayCall e.client e.seq e) = true := decide_eq_true (fun h => by have := h.2.2.2.2; omega)
              have HMC := hide hmc
              clear hmc
              obtain ⟨d0, d1, d2, d3, d4, d5, d6, d7⟩ := unhide SD
              first
              | go_region_with (first
                | (go_at_call 35
                   with_reducible refine (unhide IR _).mono ?_
                   rintro z w1 ⟨rfl, rfl⟩)
                | (go_at_call 36
                   with_reducible refine (unhide RD).mono ?_
                   rintro z w1 ⟨rfl, b1⟩
                   have bw1 := below_far (unhide BD) b1
                   obtain ⟨f0, f1, f2, f3, f4, f5, f6, f7⟩ := unhide SSF w1 bw1
                   have E3 := hide bw1
                   clear b1 bw1)
                | fail)
              | fail
              all_goals go_wp2
              all_goals go_meet
              all_goals exact ⟨by rw [unhide HMC], unhide E3⟩
            · skip
              have hmc : decide (¬ mayCall e.client e.seq e) = false := decide_eq_false (fun h => h ⟨unhide HQ, rfl, rfl, by omega, by omega⟩)
              have HMC := hide hmc
              clear hmc
              obtain ⟨d0, d1, d2, d3, d4, d5, d6, d7⟩ := unhide SD
              first
              | go_region_with (first
                | (go_at_call 35
                   with_reducible refine (unhide IR _).mono ?_
                   rintro z w1 ⟨rfl, rfl⟩)
                | (go_at_call 36
                   with_reducible refine (unhide RD).mono ?_
                   rintro z w1 ⟨rfl, b1⟩
                   have bw1 := below_far (unhide BD) b1
                   obtain ⟨f0, f1, f2, f3, f4, f5, f6, f7⟩ := unhide SSF w1 bw1
                   have E3 := hide bw1
                   clear b1 bw1)
                | fail)
              | fail
              all_goals go_wp2
              all_goals go_meet
              all_goals exact ⟨by rw [unhide HMC, decide_eq_false (by omega : ¬ e.client < 1), decide_eq_false (by omega : ¬ e.seq < 1)]; rfl, unhide E3⟩
        · have q1 : (e.seq == s) = false := by rw [beq_eq_false_iff_ne]; exact hs1
          have hmc : decide (¬ mayCall e.client s e) = true := decide_eq_true (fun h => hs1 h.2.2.1)
          have HMC := hide hmc
          clear hmc
          obtain ⟨d0, d1, d2, d3, d4, d5, d6, d7⟩ := unhide SD
          first
          | go_region_with (first
            | (go_at_call 35
               with_reducible refine (unhide IR _).mono ?_
               rintro z w1 ⟨rfl, rfl⟩)
            | (go_at_call 36
               with_reducible refine (unhide RD).mono ?_
               rintro z w1 ⟨rfl, b1⟩
               have bw1 := below_far (unhide BD) b1
               obtain ⟨f0, f1, f2, f3, f4, f5, f6, f7⟩ := unhide SSF w1 bw1
               have E3 := hide bw1
               clear b1 bw1)
            | fail)
          | fail
          all_goals go_wp2
          all_goals go_meet
          all_goals exact ⟨by rw [unhide HMC], unhide E3⟩
      · have q1 : (e.client == c) = false := by rw [beq_eq_false_iff_ne]; exact hc1
        have hmc : decide (¬ mayCall c s e) = true := decide_eq_true (fun h => hc1 h.2.1)
        have HMC := hide hmc
        clear hmc
        obtain ⟨d0, d1, d2, d3, d4, d5, d6, d7⟩ := unhide SD
        first
        | go_region_with (first
          | (go_at_call 35
             with_reducible refine (unhide IR _).mono ?_
             rintro z w1 ⟨rfl, rfl⟩)
          | (go_at_call 36
             with_reducible refine (unhide RD).mono ?_
             rintro z w1 ⟨rfl, b1⟩
             have bw1 := below_far (unhide BD) b1
             obtain ⟨f0, f1, f2, f3, f4, f5, f6, f7⟩ := unhide SSF w1 bw1
             have E3 := hide bw1
             clear b1 bw1)
          | fail)
        | fail
        all_goals go_wp2
        all_goals go_meet
        all_goals exact ⟨by rw [unhide HMC], unhide E3⟩
    case rest =>
      obtain ⟨wd, hwd⟩ : ∃ wd, wd = wc := ⟨_, rfl⟩
      subst hwd
      obtain ⟨h28, hwc⟩ := hcut
      have h28' : u28 = .bool (decide (¬ mayCall c s e)) := h28
      subst h28'
      clear h28
      have FIN0 := hide (Kp.of_below (D := fun k => k = a) (below_far (unhide BB) hwc))
      by_cases hmc : mayCall c s e
      · have hd : decide (¬ mayCall c s e) = false := decide_eq_false (fun h => h hmc)
        have HMC := hide hmc
        clear hmc
        have SX := hide (unhide SSF _ hwc)
        have kc := (unhide KV).below hwc
        obtain ⟨Z, hZ⟩ : ∃ Z, wd = Z := ⟨_, rfl⟩
        have BZ := hide hwc
        have KZ := hide kc
        obtain ⟨V1, hV1⟩ : ∃ V1, (wd.alloc (zbox 29)).drew = V1 := ⟨_, rfl⟩
        have bV1 : Below wd.heap.size wd V1 := by rw [← hV1]; exact ((Below.refl _ wd).alloc (Nat.le_refl _) _).drew
        have bD1 : Below wd.heap.size wd wd.drew := (Below.refl _ wd).drew
        have S3F : Hid (∀ (Y : World), Below wd.heap.size wd Y → Y.cell? ⟨p, 0, none⟩ = some (.map (some a)) ∧ Y.cell? ⟨B, 0, none⟩ = some (.int .i64 c) ∧ Y.cell? ⟨B, 1, none⟩ = some (.int .i64 s)) := fun Y hY => by
          obtain ⟨z0, z1, -⟩ := unhide SSF Y (below_far hwc hY)
          exact ⟨(cell_of_block (kc.below hY).box).trans rfl, z0, z1⟩
        have S1 := hide (unhide S3F _ bD1)
        have S2' := unhide S3F _ bV1
        rw [← hV1] at S2'
        have S2 := hide S2'
        have BV1 := bV1
        rw [← hV1] at BV1
        have HBV := hide BV1
        clear S2' BV1 hZ kc SD RD BD
        obtain ⟨o, ho⟩ : ∃ o, S.calls c s = o := ⟨_, rfl⟩
        rw [hd]
        cases o with
        | none =>
          have lk1 := ((unhide KZ).below bD1).calls_none (unhide WF).1 (unhide WF).2 ho
          have lk2 := ((unhide KZ).below bV1).calls_none (unhide WF).1 (unhide WF).2 ho
          rw [← hV1] at lk2
          have HO := hide ho
          clear ho bV1 bD1 hV1 hwc hd
          go_upto_region 3 with fail
          go_cut [7, 8] (fun t7 t8 w3 => Found A w3 t7 t8 none ∧ Below wd.heap.size wd w3)
          case first =>
            go_region_held3 (fun Y => Y.cell? ⟨p, 0, none⟩ = some (.map (some a)) ∧ Y.cell? ⟨B, 0, none⟩ = some (.int .i64 c) ∧ Y.cell? ⟨B, 1, none⟩ = some (.int .i64 s))
              (first | with_reducible exact unhide S1 | with_reducible exact unhide S2 | fail)
              (first
              | fail
              | fail)
            all_goals go_wp2
            all_goals go_meet
            all_goals exact ⟨rfl, unhide HBV⟩
          case rest =>
            obtain ⟨h8, hb3⟩ := hcut
            have h8' : u8 = .bool false := h8
            subst h8'
            obtain ⟨w3, hw3⟩ : ∃ w3, w3 = wc := ⟨_, rfl⟩
            subst hw3
            have b3 := below_far (unhide BZ) hb3
            have bd3 : Below w3.heap.size w3 w3.drew := (Below.refl _ w3).drew
            have k3 := ((unhide KZ).below hb3).below bd3
            obtain ⟨w4, u1, u2, u3⟩ := k3.store_call (unhide WF).1 (unhide WF).2 mc (unhide EA) hn
            have c4 : ∀ {x : Addr} {u : Value}, w3.drew.cell? x = some u → w4.cell? x = some u := fun {x} {u} hx => by
              obtain ⟨⟨es, cl, o1⟩, -⟩ := k3.objs
              exact u3.cell hx (fun e => cell_notMap hx o1 e)
            have s3 := unhide SSF _ (below_far b3 bd3)
            have S5 : Hid (w3.drew.cell? ⟨p, 0, none⟩ = some (.map (some a)) ∧ _) := ⟨(cell_of_block k3.box).trans rfl, s3⟩
            have S6 : Hid (w4.cell? ⟨p, 0, none⟩ = some (.map (some a)) ∧ w4.cell? ⟨B, 0, none⟩ = some (.int .i64 c) ∧ w4.cell? ⟨B, 1, none⟩ = some (.int .i64 s) ∧ w4.cell? ⟨B + 1, 0, none⟩ = some (.int .i64 e.kind) ∧ w4.cell? ⟨B + 1, 1, none⟩ = some (.int .i64 e.client) ∧ w4.cell? ⟨B + 1, 2, none⟩ = some (.int .i64 e.seq) ∧ w4.cell? ⟨B + 1, 3, none⟩ = some (.string e.text) ∧ w4.cell? ⟨B + 1, 4, none⟩ = some (.slice mo e.ms.length mc) ∧ w4.cell? ⟨B + 1, 5, none⟩ = some (.int .i64 e.dest)) := ⟨(cell_of_block u2.box).trans rfl, c4 s3.1, c4 s3.2.1, c4 s3.2.2.1, c4 s3.2.2.2.1, c4 s3.2.2.2.2.1, c4 s3.2.2.2.2.2.1, c4 s3.2.2.2.2.2.2.1, c4 s3.2.2.2.2.2.2.2⟩
            have FIN : Hid ((S.call c s e = some ⟨upd2 S.calls c s e, S.place, S.holder⟩ ∧ KnA A w4 p a b d (n + 1) ⟨upd2 S.calls c s e, S.place, S.holder⟩) ∧ Kp (fun k => k = a) w w4) :=
              ⟨⟨call_new (unhide HMC) (unhide HO), u2⟩, (Kp.of_below (D := fun k => k = a) (below_far (unhide BB) (below_far b3 bd3))).trans u3 (fun _ _ x => x)⟩
            clear u2 u3 c4 s3 k3 bd3 b3 hb3 h8
            go_upto_region 6 with fail
            go_region_held3 (fun Y => Y.cell? ⟨p, 0, none⟩ = some (.map (some a)) ∧ Y.cell? ⟨B, 0, none⟩ = some (.int .i64 c) ∧ Y.cell? ⟨B, 1, none⟩ = some (.int .i64 s) ∧ Y.cell? ⟨B + 1, 0, none⟩ = some (.int .i64 e.kind) ∧ Y.cell? ⟨B + 1, 1, none⟩ = some (.int .i64 e.client) ∧ Y.cell? ⟨B + 1, 2, none⟩ = some (.int .i64 e.seq) ∧ Y.cell? ⟨B + 1, 3, none⟩ = some (.string e.text) ∧ Y.cell? ⟨B + 1, 4, none⟩ = some (.slice mo e.ms.length mc) ∧ Y.cell? ⟨B + 1, 5, none⟩ = some (.int .i64 e.dest))
              (first | with_reducible exact unhide S5 | with_reducible exact unhide S6 | fail)
              (first
              | fail
              | fail)
            all_goals go_wp2
            all_goals go_ret
            all_goals exact ⟨Or.inr ⟨_, (unhide FIN).1.1, rfl, (unhide FIN).1.2⟩, (unhide FIN).2⟩
        | some e' =>
          obtain ⟨mo', mc', hea, hlk⟩ := (unhide KZ).calls_some (unhide WF).1 (unhide WF).2 ho
          have lk1 := hlk _ bD1
          have lk2 := hlk _ bV1
          have bV3 : Below wd.heap.size wd (wd.alloc (.cells #[.int .i64 e'.kind, .int .i64 e'.client, .int .i64 e'.seq, .string e'.text, .slice mo' e'.ms.length mc', .int .i64 e'.dest] 29)).drew := ((Below.refl _ wd).alloc (Nat.le_refl _) _).drew
          have S3 := hide (unhide S3F _ bV3)
          have X3 := hide (box_at wd (.cells #[.int .i64 e'.kind, .int .i64 e'.client, .int .i64 e'.seq, .string e'.text, .slice mo' e'.ms.length mc', .int .i64 e'.dest] 29))
          have B3 := hide bV3
          rw [← hV1] at lk2
          have HO := hide ho
          have EA2 := hide hea
          clear ho bV1 bD1 hV1 hwc hd hlk hea bV3
          go_upto_region 3 with fail
          go_cut [7, 8] (fun t7 t8 w3 => Found A w3 t7 t8 (some e') ∧ Below wd.heap.size wd w3)
          case first =>
            go_region_held3 (fun Y => Y.cell? ⟨p, 0, none⟩ = some (.map (some a)) ∧ Y.cell? ⟨B, 0, none⟩ = some (.int .i64 c) ∧ Y.cell? ⟨B, 1, none⟩ = some (.int .i64 s))
              (first | with_reducible exact unhide S1 | with_reducible exact unhide S2 | with_reducible exact unhide S3 | fail)
              (first
              | fail
              | fail)
            all_goals go_wp2
            all_goals go_meet
            all_goals exact ⟨⟨rfl, _, mo', mc', rfl, unhide EA2, unhide X3⟩, unhide B3⟩
          case rest =>
            obtain ⟨h8, hb3⟩ := hcut
            obtain ⟨rfl, b8, mo2, mc2, rfl, hea, x8⟩ := h8
            obtain ⟨w3, hw3⟩ : ∃ w3, w3 = wc := ⟨_, rfl⟩
            subst hw3
            have b3 := below_far (unhide BZ) hb3
            obtain ⟨z0, z1, z2, z3, z4, z5⟩ := six_of x8
            obtain ⟨-, -, t0, t1, t2, t3, t4, t5⟩ := unhide SSF _ b3
            have hAw : Below A.heap.size A w3 := (unhide HA).trans ((below_far (unhide BB) b3).mono (unhide HA).size)
            have SE := hide (sameEntry_any e'.kind e'.client e'.seq e'.dest e.kind e.client e.seq e.dest e'.text e.text mo2 mo e'.ms.length e.ms.length mc2 mc e'.ms e.ms rfl rfl (by have := hea.2; omega) w3 (hea.1.below hAw) ((unhide EA).1.below hAw))
            have K3 := hide ((unhide KZ).below hb3)
            have B5 := hide (below_far (unhide BB) b3)
            have hcl := call_again (unhide HMC) (unhide HO)
            clear b3 hb3 x8 hea hAw
            by_cases hsame : sameP e' e
            · rw [decide_eq_true hsame] at SE
              rw [if_pos hsame] at hcl
              have HCL := hide hcl
              clear hsame hcl
              go_wp2_with fail
              refine (unhide SE).mono ?_
              rintro z w5 ⟨rfl, b5⟩
              have FIN := hide (And.intro (((unhide K3).below b5).mono (Nat.le_succ n)) (Kp.of_below (D := fun k => k = a) (below_far (unhide B5) b5)))
              clear b5
              go_wp2
              go_ret
              exact ⟨Or.inr ⟨S, unhide HCL, rfl, (unhide FIN).1⟩, (unhide FIN).2⟩
            · rw [decide_eq_false hsame] at SE
              rw [if_neg hsame] at hcl
              have HCL := hide hcl
              clear hsame hcl
              go_wp2_with fail
              refine (unhide SE).mono ?_
              rintro z w5 ⟨rfl, b5⟩
              have FIN := hide (Kp.of_below (D := fun k => k = a) (below_far (unhide B5) b5))
              clear b5
              go_wp2
              go_ret
              exact ⟨Or.inl ⟨unhide HCL, rfl⟩, unhide FIN⟩
      · have hd : decide (¬ mayCall c s e) = true := decide_eq_true hmc
        have hcl : S.call c s e = none := call_no hmc
        have HCL := hide hcl
        clear hcl hmc hwc
        rw [hd]
        go_wp2
        go_ret
        exact ⟨Or.inl ⟨unhide HCL, rfl⟩, unhide FIN0⟩
  · have IR : Hid (∀ Y : World, Calls Try.prog 35 #[.int .i64 e.kind] Y fun x w' => x = .returned (.bool false) ∧ w' = Y) := fun Y => by
      have := isRequest_any e.kind Y
      rw [decide_eq_false hq] at this
      exact this
    have HCL : Hid (S.call c s e = none) := hide (call_no (fun h => hq h.1))
    have FIN0 := hide (Kp.of_below (D := fun k => k = a) (below_far (unhide BB) (unhide BD)))
    clear hq
    go_enter Try.func27, Try.ntmps27
    go_upto_region 1 with fail
    rw [unhide HW]
    rw [unhide HV]
    obtain ⟨d0, d1, d2, d3, d4, d5, d6, d7⟩ := unhide SD
    first
    | go_region_with (first
      | (go_at_call 35
         with_reducible refine (unhide IR _).mono ?_
         rintro z w1 ⟨rfl, rfl⟩)
      | fail)
    | fail
    all_goals go_wp2
    all_goals go_ret
    all_goals exact ⟨Or.inl ⟨unhide HCL, rfl⟩, unhide FIN0⟩
end Go.Proofs.Ytndpkpkijfplaaa
