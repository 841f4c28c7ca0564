/- For every two numbers the law LayoutLimits answers true: of the layouts that it builds just those of at most 40 nodes and 120 edges are taken for ones, as the document says; no conditions but that the library's tables and the kinds' words lie as the program's text lays them. -/
import Derived.Test.YtpjolnaomdmnnaaDoorLimM
import Derived.Test.YtpjolnaomdmnnaaDoorLws
import Derived.Test.YtpjolnaomdmnnaaDoorCards
import Derived.Test.YtpjolnaomdmnnaaDoorTie
import Derived.Deep.DeepHandedRow
import Derived.SevenTiedAt
import Derived.LaidMore
import Derived.Stop.Joined
namespace Go.Proofs.YtpjolnaomdmnnaaDoor.layoutLimits
open Go.ChangeShapes Go.WideShapes Go.ChangeAt Go.RowKit
set_option linter.unusedVariables false

theorem stepB {P : Program} {α : Type} (E : El P α) {B : Nat} {w : World} (hB : B ≤ w.heap.size) {ops : Array Oper} {o : Oper} {a : Act} {K : Act → World → Prop} {Q : Exit → Act → World → Prop} {F : Prop} (hgd : o.guard = none) (s x : Operand)
    (ho : o.op = .call { callee := .builtin .append, args := #[s, x], argTypes := #[E.t, E.t] }) (v u : Value) (hs : a.eval s = v) (hx : a.eval x = u)
    (xs ys : List α) (hown : E.Own w B v xs) (hu : E.Rd w u ys) (hn : xs.length + ys.length ≤ 1000000)
    (h : ∀ v' w', E.Own w' B v' (xs ++ ys) → w.grownBy w' v.ownBlock → K (a.put o.dst v') w') :
    if Region.wanted o (yielded ops a.tmps) = true then Oper.wp P o a w K Q else F := by
  have hw : Region.wanted o (yielded ops a.tmps) = true := by simp [Region.wanted, hgd]
  rw [if_pos hw]
  obtain ⟨v', w', hr, h2, h3, h4⟩ := E.run hown hB hu hn o.type
  unfold Oper.wp execOp
  simp only [ho, resolve, invoke, builtin, Sem.run_bind, Sem.run_pure, Result.andThen_ok, List.map_toArray, List.map_cons, List.map_nil, hs, hx, hr]
  exact h v' w' h2 h3
theorem grown_kept2 {α : Type} {tt : TypeId} {E : El Tryd.prog α} {w w2 : World} {B g i : Nat} {v v' : Value} {xs ys : List α} {C : Array Value} (ho : E.Own w B v xs) (hbox : w.heap[g]? = some (.cells C tt)) (he : E.e ≠ tt) (o : Obj) (hg : (w.alloc o).grownBy w2 v.ownBlock) (hB : B ≤ g) (hBw : B ≤ w.heap.size) (ho2 : E.Own w2 B v' ys) :
    (w2.setCell ⟨g, i, none⟩ v').heap[g]? = some (.cells (C.setIfInBounds i v') tt) ∧ E.Own (w2.setCell ⟨g, i, none⟩ v') B v' ys ∧ (∀ k, k < w.heap.size → k ≠ g → (∀ cur, w.heap[k]? ≠ some (.cells cur E.e)) → (w2.setCell ⟨g, i, none⟩ v').heap[k]? = w.heap[k]?) ∧ Below B w (w2.setCell ⟨g, i, none⟩ v') := by
  have vb : ∀ q, v.ownBlock = some q → ∃ cur, w.heap[q]? = some (.cells cur E.e) ∧ B ≤ q := by
    intro q hq
    rcases ho.2 with ⟨rfl, _⟩ | ⟨q', cap, cur, rfl, h2, h3, _⟩
    · cases hq
    · simp [Value.ownBlock] at hq
      subst hq
      exact ⟨cur, h3, h2⟩
  have kk : ∀ k, k < w.heap.size → (∀ cur, w.heap[k]? ≠ some (.cells cur E.e)) → w2.heap[k]? = w.heap[k]? := fun k hk hne => by
    rw [hg.block k (by simp; omega) (fun e => by obtain ⟨cur, h1, _⟩ := vb k e.symm; exact hne cur h1)]
    exact Below.heap_alloc _ _ _ (by omega)
  have gb : w2.heap[g]? = some (.cells C tt) := by
    rw [kk g (heap_lt hbox) (fun cur e => by rw [hbox] at e; simp only [Option.some.injEq, Obj.cells.injEq] at e; exact he e.2.1.symm)]; exact hbox
  have bl : Below B w w2 := by
    refine ⟨hg.os, hg.tape, hg.output, Nat.le_trans (by simp) hg.size, fun k hk => ?_⟩
    rw [hg.block k (by simp; omega) (fun e => by obtain ⟨_, _, h2⟩ := vb k e.symm; omega)]
    exact Below.heap_alloc _ _ _ (by omega)
  refine ⟨heap_put gb v', own_chg ho2 fun k cur _ hk => Below.heap_setCell _ _ _ _ (fun e => by subst e; rw [gb] at hk; simp only [Option.some.injEq, Obj.cells.injEq] at hk; exact he hk.2.1.symm), fun k hk hne hc => ?_, bl.setCell (p := ⟨g, i, none⟩) hB v'⟩
  rw [Below.heap_setCell _ _ _ _ hne]
  exact kk k hk hc


/-- the layout as it is built -/
structure Two (w : World) (g B : Nat) (vN vE : Value) (ns : List Nd) (es : List Ed) : Prop where
  box : w.heap[g]? = some (.cells #[vN, vE] 25)
  ns : ndE.Own w B vN ns
  es : edE.Own w B vE es
  hg : B ≤ g
theorem Two.keep {w w' : World} {g B : Nat} {vN vE : Value} {ns : List Nd} {es : List Ed} (H : Two w g B vN vE ns es) (hb : Below w.heap.size w w') : Two w' g B vN vE ns es :=
  ⟨by rw [hb.block _ (heap_lt H.box)]; exact H.box, H.ns.keep hb, H.es.keep hb, H.hg⟩
theorem Two.addN {w w2 : World} {g B : Nat} {vN vE v' : Value} {ns ns' : List Nd} {es : List Ed} (H : Two w g B vN vE ns es) (hBw : B ≤ w.heap.size) (o : Obj) (hg : (w.alloc o).grownBy w2 vN.ownBlock) (ho : ndE.Own w2 B v' ns') : Two (w2.setCell ⟨g, 0, none⟩ v') g B v' vE ns' es ∧ Below B w (w2.setCell ⟨g, 0, none⟩ v') := by
  obtain ⟨q1, q2, q3, q4⟩ := grown_kept2 (i := 0) H.ns H.box (by decide) o hg H.hg hBw ho
  exact ⟨⟨q1, q2, own_chg H.es fun k cur _ hk => q3 k (heap_lt hk) (fun e => by subst e; rw [H.box] at hk; simp only [Option.some.injEq, Obj.cells.injEq] at hk; exact absurd hk.2.1 (by decide)) (fun cur' e => by rw [hk] at e; simp only [Option.some.injEq, Obj.cells.injEq] at e; exact absurd e.2.1 (by decide)), H.hg⟩, q4⟩
theorem Two.addE {w w2 : World} {g B : Nat} {vN vE v' : Value} {ns : List Nd} {es es' : List Ed} (H : Two w g B vN vE ns es) (hBw : B ≤ w.heap.size) (o : Obj) (hg : (w.alloc o).grownBy w2 vE.ownBlock) (ho : edE.Own w2 B v' es') : Two (w2.setCell ⟨g, 1, none⟩ v') g B vN v' ns es' ∧ Below B w (w2.setCell ⟨g, 1, none⟩ v') := by
  obtain ⟨q1, q2, q3, q4⟩ := grown_kept2 (i := 1) H.es H.box (by decide) o hg H.hg hBw ho
  exact ⟨⟨q1, own_chg H.ns fun k cur _ hk => q3 k (heap_lt hk) (fun e => by subst e; rw [H.box] at hk; simp only [Option.some.injEq, Obj.cells.injEq] at hk; exact absurd hk.2.1 (by decide)) (fun cur' e => by rw [hk] at e; simp only [Option.some.injEq, Obj.cells.injEq] at e; exact absurd e.2.1 (by decide)), q2, H.hg⟩, q4⟩
/-- the box stays while another row grows -/
theorem Two.box2 {α : Type} {E : El Tryd.prog α} {w w2 : World} {g B : Nat} {vN vE v : Value} {ns : List Nd} {es : List Ed} {xs : List α} (H : Two w g B vN vE ns es) (he : E.e ≠ 25) (ho : E.Own w B v xs) (o : Obj) (hg : (w.alloc o).grownBy w2 v.ownBlock) : w2.heap[g]? = some (.cells #[vN, vE] 25) := by
  rw [hg.block g (by have := heap_lt H.box; simp; omega) (fun e => by
    rcases ho.2 with ⟨hx, _⟩ | ⟨q', cap, cur, hx, h2, h3, _⟩
    · rw [hx] at e; cases e
    · rw [hx] at e
      simp [Value.ownBlock] at e
      subst e
      rw [H.box] at h3
      simp only [Option.some.injEq, Obj.cells.injEq] at h3
      exact absurd h3.2.1 (by intro e; exact he e.symm)), Below.heap_alloc _ _ _ (by have := heap_lt H.box; omega)]
  exact H.box
theorem add_n (W : World) (s : ByteArray) (h : s.size ≤ 100) : (Op.stringOp .add (⟨#[110]⟩ : ByteArray) s).run Tryd.prog W = .ok (.string (str [110] ++ s)) W := run_string_add (P := Tryd.prog) (w := W) (str [110]) s (by rw [str_size]; simp) (by omega)
theorem i64_small (x : Int) (h0 : 0 ≤ x) (h1 : x ≤ 100000) : IntKind.i64.wrap x = x := by unfold IntKind.wrap; simp [IntKind.bits, IntKind.signed]; omega
theorem dig_size (i : Nat) : (dig i).size ≤ 2 := by unfold dig; split <;> simp [str_size]

set_option maxRecDepth 100000 in
set_option maxHeartbeats 4000000 in
theorem walk (n0 n1 : Int) (w : World) (L : Laid w) : Calls Tryd.prog 7 #[.int .i64 n0, .int .i64 n1] w fun e w' => e = .returned (.bool true) ∧ Below w.heap.size w w' := by
  obtain ⟨N, hN, N1⟩ := mod_in n0 50 (by omega) (by omega)
  obtain ⟨M, hM, M1⟩ := mod_in n1 140 (by omega) (by omega)
  simp only [Int.cast_ofNat_Int] at hN hM
  have KA := hide (awake_any w L)
  have i0 : (N : Int) ≤ 49 := by omega
  have i1 : (M : Int) ≤ 139 := by omega
  have HN1 := hide N1
  have HM1 := hide M1
  clear L N1 M1
  go_enter Tryd.func7, Tryd.ntmps7
  go_upto_region 5 with (go_at_call 9; refine (KA.out).mono ?_; rintro e W1 ⟨rfl, hb⟩; have Hb := hide hb; clear hb)
  rw [hN, hM]
  generalize wrap64 ((IntKind.u64.wrap n0).tmod 50) = x1 at *
  generalize (IntKind.u64.wrap n0).tmod 50 = x2 at *
  generalize wrap64 ((IntKind.u64.wrap n1).tmod 140) = x3 at *
  generalize (IntKind.u64.wrap n1).tmod 140 = x4 at *
  clear hN hM KA
  obtain ⟨g, hg⟩ : ∃ g, W1.heap.size = g := ⟨_, rfl⟩
  have T0 : Hid (Two (W1.alloc (.cells #[.slice none 0 0, .slice none 0 0] 25)) g w.heap.size (.slice none 0 0) (.slice none 0 0) (nsL 0) []) := hide ⟨by rw [← hg]; exact heap_new _ _, El.Own.nil _ _ _, El.Own.nil _ _ _, by rw [← hg]; exact Hb.out.size⟩
  have B0 : Hid (Below w.heap.size w (W1.alloc (.cells #[.slice none 0 0, .slice none 0 0] 25))) := hide (Hb.out.alloc Hb.out.size _)
  rw [hg]
  clear hg Hb
  generalize W1.alloc (.cells #[.slice none 0 0, .slice none 0 0] 25) = W2 at *
  go_wp2_with fail
  go_loopw [6] (fun v6 wr => ∃ (k : Nat) (vN : Value), k ≤ N ∧ v6 = .int .i64 k ∧ Hid (Two wr g w.heap.size vN (.slice none 0 0) (nsL k) []) ∧ Hid (Below w.heap.size w wr)) (fun v6 _ => N - (intOf v6).toNat)
  case atStart => exact ⟨0, _, by omega, rfl, T0, B0⟩
  case round =>
    clear T0 B0
    obtain ⟨k, vN, hk, rfl, HT, HB⟩ := hrel
    by_cases hlt : k < N
    · have j1 : (k : Int) < (N : Int) := by omega
      obtain ⟨aN, cN, rfl⟩ := HT.out.ns.rd.form
      have hl := nsL_len k
      have HT2 := HT.out
      rw [hl] at HT2
      have HT' := hide HT2
      clear hl HT HT2
      have e8 : Int.tmod (k : Int) 8 = ((k % 8 : Nat) : Int) := by rw [Int.tmod_eq_emod_of_nonneg (by omega)]; omega
      obtain ⟨z, hz⟩ : ∃ z : Int, ((k % 8 : Nat) : Int) = z := ⟨_, rfl⟩
      rw [hz] at e8
      have K21 := hide (fun W => digits_any k (by have := HN1.out; omega) W)
      have an := fun W => add_n W (dig k) (Nat.le_trans (dig_size k) (by omega))
      have hnd : Hid (ndL k = ⟨str [110] ++ dig k, 1, z⟩) := hide (by unfold ndL nmL; rw [hz])
      have Hnx := hide (nsL_next k)
      generalize dig k = dk at *
      generalize str [110] ++ dk = nm at *
      clear hz
      go_upto_region 8 with fail
      obtain ⟨kk, hkk⟩ : ∃ kk : Int, (k : Int) = kk := ⟨_, rfl⟩
      have Hkk := hide hkk
      obtain ⟨SS, hSS⟩ : ∃ SS : World → Prop, SS = fun W' => W'.heap[g]? = some (.cells #[.slice aN k cN, .slice none 0 0] 25) := ⟨_, rfl⟩
      have s1 : ∀ W', SS W' → W'.cell? ⟨g, 0, none⟩ = some (.slice aN k cN) := fun W' h => by rw [hSS] at h; exact (cells_at h 0).1
      have s8 : Hid (∀ W', W'.heap[g]? = some (.cells #[.slice aN k cN, .slice none 0 0] 25) → SS W') := hide (fun W' h => by rw [hSS]; exact h)
      have hS0 := s8.out wr.drew HT'.out.box
      have HT0 := hide (HT'.out.keep (Below.refl wr.heap.size wr).drew)
      have HB0 : Hid (Below w.heap.size w wr.drew) := hide ⟨HB.out.os, HB.out.tape, HB.out.output, HB.out.size, HB.out.block⟩
      clear hSS hkk
      refine wp_region_E SS 11 (by kernel_rfl) ?_
      refine wpAnyE_take (i := 0) (v := .pointer (some ⟨g, 0, none⟩)) rfl (by kernel_rfl) (by kernel_rfl) (by kernel_rfl) (by kernel_rfl) (fun _ _ _ h => h) (Or.inl ⟨by rfl, fun W' hW => by go_simp⟩) hS0 ?_
      refine wpAnyE_take (i := 1) (v := .slice aN k cN) rfl (by kernel_rfl) (by kernel_rfl) (by kernel_rfl) (by kernel_rfl) (fun _ _ _ h => h) (Or.inl ⟨by rfl, fun W' hW => by have x0 := s1 W' hW; go_simp⟩) hS0 ?_
      refine wpAnyE_take (i := 2) (v := .int .i64 k) rfl (by kernel_rfl) (by kernel_rfl) (by kernel_rfl) (by kernel_rfl) (fun _ _ _ h => h) (Or.inl ⟨by rfl, fun W' hW => by go_simp⟩) hS0 ?_
      refine wpAnyE_take (i := 5) (v := .int .i64 k) rfl (by kernel_rfl) (by kernel_rfl) (by kernel_rfl) (by kernel_rfl) (fun _ _ _ h => h) (Or.inl ⟨by rfl, fun W' hW => by go_simp⟩) hS0 ?_
      refine wpAnyE_take (i := 6) (v := .int .i64 z) rfl (by kernel_rfl) (by kernel_rfl) (by kernel_rfl) (by kernel_rfl) (fun _ _ _ h => h) (Or.inl ⟨by rfl, fun W' hW => by go_simp⟩) hS0 ?_
      refine wpAnyE_ready (rs := [3]) (by kernel_rfl) (by simp) ?_
      refine AllReadyE.cons rfl (fun K hK => ?_) AllReadyE.nil
      go_simp
      refine (K21.out _).mono ?_
      rintro e W3 ⟨rfl, hb3⟩
      have T3 := HT0.out.keep hb3
      have B3 := HB0.out.trans (hb3.mono HB0.out.size)
      have S3 := s8.out _ T3.box
      have HT3 := hide T3
      have HB3 := hide B3
      clear T3 B3 hb3
      refine hK.out _ _ (fun _ => S3) ?_
      clear hK K
      refine wpAnyE_take (i := 4) (v := .string nm) rfl (by kernel_rfl) (by kernel_rfl) (by kernel_rfl) (by kernel_rfl) (fun _ _ _ h => h) (Or.inl ⟨by rfl, fun W' hW => by go_simp⟩) S3 ?_
      refine wpAnyE_take (i := 7) (v := .agg #[.string nm, .int .i64 1, .int .i64 z]) rfl (by kernel_rfl) (by kernel_rfl) (by kernel_rfl) (by kernel_rfl) (fun _ _ _ h => h) (Or.inl ⟨by rfl, fun W' hW => by go_simp⟩) S3 ?_
      refine wpAnyE_ready (rs := [8]) (by kernel_rfl) (by simp) ?_
      refine AllReadyE.cons rfl (fun K hK => ?_) AllReadyE.nil
      have T4 := HT3.out.keep ((Below.refl W3.heap.size W3).alloc (Nat.le_refl _) (.cells #[.string nm, .int .i64 1, .int .i64 z] 44))
      have S4 := s8.out _ T4.box
      have HT4 := hide T4
      clear T4
      go_simp
      refine hK.out _ _ (fun _ => S4) ?_
      clear hK K
      refine wpAnyE_ready (rs := [9]) (by kernel_rfl) (by simp) ?_
      refine AllReadyE.cons rfl (fun K hK => ?_) AllReadyE.nil
      refine stepB ndE (B := w.heap.size) (by have := HB3.out.size; simp; omega) rfl (.tmp 26) (.tmp 33) rfl (.slice aN k cN) _ rfl rfl (nsL k) [⟨nm, 1, z⟩] HT4.out.ns (nd_new W3 ⟨nm, 1, z⟩ _ (by simp)) (by rw [nsL_len]; have := HN1.out; simp; omega) ?_
      intro v6 W6 ho6 hg6
      have b6 := HT3.out.box2 (E := ndE) (by decide) HT3.out.ns _ hg6
      obtain ⟨T6, B6⟩ := HT3.out.addN HB3.out.size _ hg6 ho6
      obtain ⟨a6, c6, hv6⟩ := ho6.rd.form
      obtain ⟨n6, hn6⟩ : ∃ n6, (nsL k ++ [(⟨nm, 1, z⟩ : Nd)]).length = n6 := ⟨_, rfl⟩
      rw [hn6] at hv6
      subst hv6
      clear hn6
      have y0 := (cells_at b6 0).1
      have f0 := (cells_at b6 0).2
      simp at y0
      have S6 := s8.out _ b6
      have HT6 : Hid (Two (W6.setCell ⟨g, 0, none⟩ (.slice a6 n6 c6)) g w.heap.size (.slice a6 n6 c6) (.slice none 0 0) (nsL (k + 1)) []) := hide (by rw [Hnx.out, hnd.out]; exact T6)
      have HB6 : Hid (Below w.heap.size w (W6.setCell ⟨g, 0, none⟩ (.slice a6 n6 c6))) := hide (HB3.out.trans B6)
      clear T6 B6 ho6 hg6 b6
      refine hK.out _ _ (fun _ => S6) ?_
      clear hK K
      refine wpAnyE_ready (rs := [10]) (by kernel_rfl) (by simp) ?_
      refine AllReadyE.cons rfl (fun K hK => ?_) AllReadyE.nil
      go_simp
      refine hK.out _ _ (fun _ => S6) ?_
      clear hK K
      refine wpAnyE_ready (rs := [11]) (by kernel_rfl) (by simp) ?_
      refine AllReadyE.cons rfl (fun K hK => ?_) AllReadyE.nil
      go_simp
      refine hK.out _ _ (fun h => absurd rfl h) ?_
      clear hK K
      refine wpAnyE_done (by kernel_rfl) ?_ _
      go_wp2_with fail
      go_roundw
      case rel => exact ⟨k + 1, _, by omega, by go_num, HT6, HB6⟩
      case measure => simp [intOf]; omega
    · obtain rfl : k = N := by omega
      have j1 : ¬ (k : Int) < (k : Int) := by omega
      obtain ⟨aN, cN, rfl⟩ := HT.out.ns.rd.form
      have hl := nsL_len k
      have HT2 := HT.out
      rw [hl] at HT2
      have HT' := hide HT2
      clear hl HT HT2
      go_wp2_with fail
      obtain ⟨wA, rfl⟩ : ∃ W, W = wr := ⟨_, rfl⟩
      have HBA := hide HB.out
      clear HB
      have E0 : Hid (esL k 0 = []) := hide (by unfold esL; split <;> rfl)
      go_loopw [7] (fun v7 wr => ∃ (i : Nat) (vE : Value), i ≤ M ∧ v7 = .int .i64 i ∧ Hid (Two wr g w.heap.size (.slice aN k cN) vE (nsL k) (esL k i)) ∧ Hid (Below w.heap.size w wr)) (fun v7 _ => M - (intOf v7).toNat)
      case atStart => exact ⟨0, _, by omega, rfl, hide (by rw [E0.out]; exact HT'.out), HBA⟩
      case round =>
        clear HT' HBA
        obtain ⟨i, vE, hi, rfl, HT, HB⟩ := hrel
        by_cases hgo : i < M ∧ 4 < k
        · obtain ⟨hlt, h4⟩ := hgo
          have j2 : (i : Int) < (M : Int) := by omega
          have j3 : (4 : Int) < (k : Int) := by omega
          obtain ⟨aE, cE, rfl⟩ := HT.out.es.rd.form
          have hl : (esL k i).length = i := by unfold esL; rw [if_pos h4]; simp
          have HT2 := HT.out
          rw [hl] at HT2
          have HT' := hide HT2
          have Hl := hide hl
          clear hl HT HT2
          have e1 : Int.tmod (i : Int) (k : Int) = ((i % k : Nat) : Int) := by rw [Int.tmod_eq_emod_of_nonneg (by omega)]; simp
          have e2 : Int.tdiv (i : Int) (k : Int) = ((i / k : Nat) : Int) := by rw [Int.tdiv_eq_ediv_of_nonneg (by omega)]; simp
          have dn : (0 : Int) ≤ ((i / k : Nat) : Int) := Int.natCast_nonneg _
          have e3 : Int.tmod ((i : Int) + 1 + ((i / k : Nat) : Int)) (k : Int) = (((i + 1 + i / k) % k : Nat) : Int) := by rw [Int.tmod_eq_emod_of_nonneg (by omega)]; simp
          have hd2 : i / k ≤ i := Nat.div_le_self _ _
          have Hed : Hid (esL k (i + 1) = esL k i ++ [((((i % k : Nat) : Int)), (((i + 1 + i / k) % k : Nat) : Int))]) := hide (by unfold esL; rw [if_pos h4, if_pos h4, List.range_succ, List.map_append]; rfl)
          obtain ⟨d, hd⟩ : ∃ d : Int, ((i / k : Nat) : Int) = d := ⟨_, rfl⟩
          obtain ⟨x, hx⟩ : ∃ x : Int, ((i % k : Nat) : Int) = x := ⟨_, rfl⟩
          obtain ⟨y, hy⟩ : ∃ y : Int, (((i + 1 + i / k) % k : Nat) : Int) = y := ⟨_, rfl⟩
          have d0 : 0 ≤ d := by rw [← hd]; exact dn
          have d139 : i / k ≤ 139 := by omega
          have d1 : d ≤ 139 := by rw [← hd]; have h9 : ((i / k : Nat) : Int) ≤ ((139 : Nat) : Int) := Int.ofNat_le.2 d139; simpa using h9
          clear d139
          clear dn
          rw [hx] at e1 Hed
          rw [hd] at e2 e3
          rw [hy] at e3 Hed
          clear hd hx hy hd2
          go_upto_region 12 with fail
          obtain ⟨I, hI⟩ : ∃ I : Int, (i : Int) = I := ⟨_, rfl⟩
          obtain ⟨J, hJ⟩ : ∃ J : Int, (k : Int) = J := ⟨_, rfl⟩
          have I0 : 0 ≤ I := by omega
          have I1 : I ≤ 139 := by omega
          have J0 : ¬ J = 0 := by omega
          rw [hI, hJ] at e1 e2 e3
          have w1 : IntKind.i64.wrap (I + 1) = I + 1 := i64_small _ (by omega) (by omega)
          have w2 : IntKind.i64.wrap (I + 1 + d) = I + 1 + d := i64_small _ (by omega) (by omega)
          have w3 : IntKind.i64.wrap d = d := i64_small _ (by omega) (by omega)
          have w4 : wrap64 (I + 1) = I + 1 := w64_small _ (by omega) (by omega)
          have w5 : wrap64 (I + 1 + d) = I + 1 + d := w64_small _ (by omega) (by omega)
          have w6 : wrap64 d = d := w64_small _ (by omega) (by omega)
          obtain ⟨SS, hSS⟩ : ∃ SS : World → Prop, SS = fun W' => W'.heap[g]? = some (.cells #[.slice aN k cN, .slice aE i cE] 25) := ⟨_, rfl⟩
          have s1 : ∀ W', SS W' → W'.cell? ⟨g, 1, none⟩ = some (.slice aE i cE) := fun W' h => by rw [hSS] at h; exact (cells_at h 1).1
          have s8 : Hid (∀ W', W'.heap[g]? = some (.cells #[.slice aN k cN, .slice aE i cE] 25) → SS W') := hide (fun W' h => by rw [hSS]; exact h)
          have hS0 := s8.out wr.drew HT'.out.box
          have HT3 := hide (HT'.out.keep (Below.refl wr.heap.size wr).drew)
          have HB3 : Hid (Below w.heap.size w wr.drew) := hide ⟨HB.out.os, HB.out.tape, HB.out.output, HB.out.size, HB.out.block⟩
          rw [hI, hJ]
          have HI := hide hI
          have HJ := hide hJ
          clear hSS hI hJ
          refine wp_region_E SS 17 (by kernel_rfl) ?_
          refine wpAnyE_take (i := 0) (v := .pointer (some ⟨g, 1, none⟩)) rfl (by kernel_rfl) (by kernel_rfl) (by kernel_rfl) (by kernel_rfl) (fun _ _ _ h => h) (Or.inl ⟨by rfl, fun W' hW => by go_simp⟩) hS0 ?_
          refine wpAnyE_take (i := 1) (v := .slice aE i cE) rfl (by kernel_rfl) (by kernel_rfl) (by kernel_rfl) (by kernel_rfl) (fun _ _ _ h => h) (Or.inl ⟨by rfl, fun W' hW => by have x0 := s1 W' hW; go_simp⟩) hS0 ?_
          refine wpAnyE_take (i := 2) (v := .int .i64 I) rfl (by kernel_rfl) (by kernel_rfl) (by kernel_rfl) (by kernel_rfl) (fun _ _ _ h => h) (Or.inl ⟨by rfl, fun W' hW => by go_simp⟩) hS0 ?_
          refine wpAnyE_take (i := 3) (v := .int .i64 J) rfl (by kernel_rfl) (by kernel_rfl) (by kernel_rfl) (by kernel_rfl) (fun _ _ _ h => h) (Or.inl ⟨by rfl, fun W' hW => by go_simp⟩) hS0 ?_
          refine wpAnyE_take (i := 4) (v := .int .i64 x) rfl (by kernel_rfl) (by kernel_rfl) (by kernel_rfl) (by kernel_rfl) (fun _ _ _ h => h) (Or.inl ⟨by rfl, fun W' hW => by go_simp⟩) hS0 ?_
          refine wpAnyE_take (i := 5) (v := .int .i64 I) rfl (by kernel_rfl) (by kernel_rfl) (by kernel_rfl) (by kernel_rfl) (fun _ _ _ h => h) (Or.inl ⟨by rfl, fun W' hW => by go_simp⟩) hS0 ?_
          refine wpAnyE_take (i := 6) (v := .int .i64 (I + 1)) rfl (by kernel_rfl) (by kernel_rfl) (by kernel_rfl) (by kernel_rfl) (fun _ _ _ h => h) (Or.inl ⟨by rfl, fun W' hW => by go_simp⟩) hS0 ?_
          refine wpAnyE_take (i := 7) (v := .int .i64 I) rfl (by kernel_rfl) (by kernel_rfl) (by kernel_rfl) (by kernel_rfl) (fun _ _ _ h => h) (Or.inl ⟨by rfl, fun W' hW => by go_simp⟩) hS0 ?_
          refine wpAnyE_take (i := 8) (v := .int .i64 J) rfl (by kernel_rfl) (by kernel_rfl) (by kernel_rfl) (by kernel_rfl) (fun _ _ _ h => h) (Or.inl ⟨by rfl, fun W' hW => by go_simp⟩) hS0 ?_
          refine wpAnyE_take (i := 9) (v := .int .i64 d) rfl (by kernel_rfl) (by kernel_rfl) (by kernel_rfl) (by kernel_rfl) (fun _ _ _ h => h) (Or.inl ⟨by rfl, fun W' hW => by go_simp⟩) hS0 ?_
          refine wpAnyE_take (i := 10) (v := .int .i64 (I + 1 + d)) rfl (by kernel_rfl) (by kernel_rfl) (by kernel_rfl) (by kernel_rfl) (fun _ _ _ h => h) (Or.inl ⟨by rfl, fun W' hW => by go_simp⟩) hS0 ?_
          refine wpAnyE_take (i := 11) (v := .int .i64 J) rfl (by kernel_rfl) (by kernel_rfl) (by kernel_rfl) (by kernel_rfl) (fun _ _ _ h => h) (Or.inl ⟨by rfl, fun W' hW => by go_simp⟩) hS0 ?_
          refine wpAnyE_take (i := 12) (v := .int .i64 y) rfl (by kernel_rfl) (by kernel_rfl) (by kernel_rfl) (by kernel_rfl) (fun _ _ _ h => h) (Or.inl ⟨by rfl, fun W' hW => by go_simp⟩) hS0 ?_
          refine wpAnyE_take (i := 13) (v := .agg #[.int .i64 x, .int .i64 y]) rfl (by kernel_rfl) (by kernel_rfl) (by kernel_rfl) (by kernel_rfl) (fun _ _ _ h => h) (Or.inl ⟨by rfl, fun W' hW => by go_simp⟩) hS0 ?_
          refine wpAnyE_ready (rs := [14]) (by kernel_rfl) (by simp) ?_
          refine AllReadyE.cons rfl (fun K hK => ?_) AllReadyE.nil
          have T4 := HT3.out.keep ((Below.refl wr.drew.heap.size wr.drew).alloc (Nat.le_refl _) (.cells #[.int .i64 x, .int .i64 y] 47))
          have S4 := s8.out _ T4.box
          have HT4 := hide T4
          clear T4
          go_simp
          refine hK.out _ _ (fun _ => S4) ?_
          clear hK K
          refine wpAnyE_ready (rs := [15]) (by kernel_rfl) (by simp) ?_
          refine AllReadyE.cons rfl (fun K hK => ?_) AllReadyE.nil
          refine stepB edE (B := w.heap.size) (by have := HB3.out.size; simp at this ⊢; omega) rfl (.tmp 46) (.tmp 59) rfl (.slice aE i cE) _ rfl rfl (esL k i) [(x, y)] HT4.out.es (ed_new wr.drew (x, y) _ (by simp)) (by rw [Hl.out]; have := HM1.out; simp; omega) ?_
          intro v6 W6 ho6 hg6
          have b6 := HT3.out.box2 (E := edE) (by decide) HT3.out.es _ hg6
          obtain ⟨T6, B6⟩ := HT3.out.addE HB3.out.size _ hg6 ho6
          obtain ⟨a6, c6, hv6⟩ := ho6.rd.form
          obtain ⟨n6, hn6⟩ : ∃ n6, (esL k i ++ [((x, y) : Ed)]).length = n6 := ⟨_, rfl⟩
          rw [hn6] at hv6
          subst hv6
          clear hn6
          have y0 := (cells_at b6 1).1
          have f0 := (cells_at b6 1).2
          simp at y0
          have S6 := s8.out _ b6
          have HT6 : Hid (Two (W6.setCell ⟨g, 1, none⟩ (.slice a6 n6 c6)) g w.heap.size (.slice aN k cN) (.slice a6 n6 c6) (nsL k) (esL k (i + 1))) := hide (by rw [Hed.out]; exact T6)
          have HB6 : Hid (Below w.heap.size w (W6.setCell ⟨g, 1, none⟩ (.slice a6 n6 c6))) := hide (HB3.out.trans B6)
          clear T6 B6 ho6 hg6 b6
          refine hK.out _ _ (fun _ => S6) ?_
          clear hK K
          refine wpAnyE_ready (rs := [16]) (by kernel_rfl) (by simp) ?_
          refine AllReadyE.cons rfl (fun K hK => ?_) AllReadyE.nil
          go_simp
          refine hK.out _ _ (fun _ => S6) ?_
          clear hK K
          refine wpAnyE_ready (rs := [17]) (by kernel_rfl) (by simp) ?_
          refine AllReadyE.cons rfl (fun K hK => ?_) AllReadyE.nil
          go_simp
          refine hK.out _ _ (fun h => absurd rfl h) ?_
          clear hK K
          refine wpAnyE_done (by kernel_rfl) ?_ _
          rw [← HI.out]
          try rw [← HJ.out]
          clear w1 w2 w3 w4 w5 w6 e1 e2 e3
          go_wp2_with fail
          go_roundw
          case rel => exact ⟨i + 1, _, by omega, by go_num, HT6, HB6⟩
          case measure => simp [intOf]; omega
        · have HE : Hid (esL k i = esL k M) := hide (by
            by_cases h4 : 4 < k
            · obtain rfl : i = M := by omega
              rfl
            · unfold esL; rw [if_neg h4, if_neg h4])
          have HTM : Hid (Two wr g w.heap.size (.slice aN k cN) vE (nsL k) (esL k M)) := hide (by rw [← HE.out]; exact HT.out)
          have Hgo := hide hgo
          obtain ⟨aE, cE, rfl⟩ := HTM.out.es.rd.form
          have hbx := HTM.out.box
          have y0 := (cells_at hbx 0).1
          have y1 := (cells_at hbx 1).1
          simp at y0 y1
          have hv := HTM.out.ns.rd
          have hu := HTM.out.es.rd
          have hcap := own_cap HTM.out.es
          have nl : (nsL k).length = k := nsL_len k
          have K13 := check_any aN aE cN cE (nsL k) (esL k M) wr (by rw [nl]; exact hv) hu hcap (fun q hq => by
            unfold nsL at hq
            obtain ⟨r, _, rfl⟩ := List.mem_map.1 hq
            show (str [110] ++ dig r).size ≤ maxLen
            have h2 := dig_size r
            rw [ByteArray.size_append, str_size]
            unfold maxLen
            simp; omega)
          have K10 : Hid (∀ W, Below wr.heap.size wr W → _) := hide (fun W (hb : Below wr.heap.size wr W) => rgood_any aN aE cN cE (nsL k) (esL k M) W (by rw [nl]; exact hv.keep hb) (hu.keep hb))
          have hlg := lim_good k M
          have HLG := hide hlg
          obtain ⟨m', hm'⟩ : ∃ m', (esL k M).length = m' := ⟨_, rfl⟩
          rw [nl] at K13 K10
          rw [hm'] at K13 K10 y1
          have HK13 := hide K13
          have X : Hid (∀ W, Below wr.heap.size wr W → W.cell? ⟨g, 0, none⟩ = some (.slice aN k cN) ∧ W.cell? ⟨g, 1, none⟩ = some (.slice aE m' cE)) := hide (fun W hb => by
            have hx : W.heap[g]? = some (.cells #[.slice aN k cN, .slice aE m' cE] 25) := by rw [hb.block _ (heap_lt hbx), hbx, hm']
            exact ⟨(cells_at hx 0).1, (cells_at hx 1).1⟩)
          generalize good (nsL k) (esL k M) = gd at *
          have HB' := hide HB.out
          clear hv hu hcap nl K13 hbx hlg hm' HE HT HTM hgo HB E0
          by_cases hlt : i < M
          · have j2 : (i : Int) < (M : Int) := by omega
            have j3 : ¬ (4 : Int) < (k : Int) := by have := Hgo.out; omega
            have h20 : k ≤ 20 := by omega
            have q1 : (k : Int) ≤ 20 := by omega
            clear HLG
            cases gd with
            | false =>
              simp only [Bool.false_eq_true, if_false] at HK13
              go_wp2_with (first
                | (go_at_call 13; refine (HK13.out).mono ?_; rintro e W3 ⟨rfl, hb3⟩; have ⟨z0, z1⟩ := X.out _ hb3; have Hb3 := hide hb3; clear hb3)
                | (go_at_call 10; refine (K10.out _ Hb3.out).mono ?_; rintro e W4 ⟨rfl, hb4⟩; have Hb4 := hide (Hb3.out.trans (hb4.mono Hb3.out.size)); clear hb4))
              go_ret
              exact ⟨by first | rfl | (simp [q3]) | (simp; omega), HB'.out.trans (Hb4.out.mono HB'.out.size)⟩
            | true =>
              simp only [if_true] at HK13
              go_wp2_with (first
                | (go_at_call 13; refine (HK13.out).mono ?_; rintro e W3 ⟨rfl, hb3⟩; have ⟨z0, z1⟩ := X.out _ hb3; have Hb3 := hide hb3; clear hb3)
                | (go_at_call 10; refine (K10.out _ Hb3.out).mono ?_; rintro e W4 ⟨rfl, hb4⟩; have Hb4 := hide (Hb3.out.trans (hb4.mono Hb3.out.size)); clear hb4))
              go_ret
              exact ⟨by first | rfl | (simp [q3]) | (simp; omega), HB'.out.trans (Hb4.out.mono HB'.out.size)⟩
          · have j2 : ¬ (i : Int) < (M : Int) := by omega
            by_cases h20 : k ≤ 20
            · have q1 : (k : Int) ≤ 20 := by omega
              clear HLG
              cases gd with
              | false =>
                simp only [Bool.false_eq_true, if_false] at HK13
                go_wp2_with (first
                  | (go_at_call 13; refine (HK13.out).mono ?_; rintro e W3 ⟨rfl, hb3⟩; have ⟨z0, z1⟩ := X.out _ hb3; have Hb3 := hide hb3; clear hb3)
                  | (go_at_call 10; refine (K10.out _ Hb3.out).mono ?_; rintro e W4 ⟨rfl, hb4⟩; have Hb4 := hide (Hb3.out.trans (hb4.mono Hb3.out.size)); clear hb4))
                go_ret
                exact ⟨by first | rfl | (simp [q3]) | (simp; omega), HB'.out.trans (Hb4.out.mono HB'.out.size)⟩
              | true =>
                simp only [if_true] at HK13
                go_wp2_with (first
                  | (go_at_call 13; refine (HK13.out).mono ?_; rintro e W3 ⟨rfl, hb3⟩; have ⟨z0, z1⟩ := X.out _ hb3; have Hb3 := hide hb3; clear hb3)
                  | (go_at_call 10; refine (K10.out _ Hb3.out).mono ?_; rintro e W4 ⟨rfl, hb4⟩; have Hb4 := hide (Hb3.out.trans (hb4.mono Hb3.out.size)); clear hb4))
                go_ret
                exact ⟨by first | rfl | (simp [q3]) | (simp; omega), HB'.out.trans (Hb4.out.mono HB'.out.size)⟩
            · have q1 : ¬ (k : Int) ≤ 20 := by omega
              have hgd := HLG.out (by omega)
              by_cases h40 : k ≤ 40
              · have q2 : (k : Int) ≤ 40 := by omega
                by_cases h120 : M ≤ 120
                · have q3 : (M : Int) ≤ 120 := by omega
                  rw [decide_eq_true ⟨h40, h120⟩] at hgd
                  subst hgd
                  simp only [if_true] at HK13
                  go_wp2_with (first
                    | (go_at_call 13; refine (HK13.out).mono ?_; rintro e W3 ⟨rfl, hb3⟩; have ⟨z0, z1⟩ := X.out _ hb3; have Hb3 := hide hb3; clear hb3)
                    | (go_at_call 10; refine (K10.out _ Hb3.out).mono ?_; rintro e W4 ⟨rfl, hb4⟩; have Hb4 := hide (Hb3.out.trans (hb4.mono Hb3.out.size)); clear hb4))
                  go_ret
                  exact ⟨by first | rfl | (simp [q3]) | (simp; omega), HB'.out.trans (Hb4.out.mono HB'.out.size)⟩
                · have q3 : ¬ (M : Int) ≤ 120 := by omega
                  rw [decide_eq_false (fun h => h120 h.2)] at hgd
                  subst hgd
                  simp only [Bool.false_eq_true, if_false] at HK13
                  go_wp2_with (first
                    | (go_at_call 13; refine (HK13.out).mono ?_; rintro e W3 ⟨rfl, hb3⟩; have ⟨z0, z1⟩ := X.out _ hb3; have Hb3 := hide hb3; clear hb3)
                    | (go_at_call 10; refine (K10.out _ Hb3.out).mono ?_; rintro e W4 ⟨rfl, hb4⟩; have Hb4 := hide (Hb3.out.trans (hb4.mono Hb3.out.size)); clear hb4))
                  go_ret
                  exact ⟨by first | rfl | (simp [q3]) | (simp; omega), HB'.out.trans (Hb4.out.mono HB'.out.size)⟩
              · have q2 : ¬ (k : Int) ≤ 40 := by omega
                rw [decide_eq_false (fun h => h40 h.1)] at hgd
                subst hgd
                simp only [Bool.false_eq_true, if_false] at HK13
                go_wp2_with (first
                  | (go_at_call 13; refine (HK13.out).mono ?_; rintro e W3 ⟨rfl, hb3⟩; have ⟨z0, z1⟩ := X.out _ hb3; have Hb3 := hide hb3; clear hb3)
                  | (go_at_call 10; refine (K10.out _ Hb3.out).mono ?_; rintro e W4 ⟨rfl, hb4⟩; have Hb4 := hide (Hb3.out.trans (hb4.mono Hb3.out.size)); clear hb4))
                go_ret
                exact ⟨by first | rfl | (simp [q3]) | (simp; omega), HB'.out.trans (Hb4.out.mono HB'.out.size)⟩

theorem laidOut : laidOutB Tryd.prog = true := by kernel_rfl
theorem met (os : Os) (args : Array Value) : laidMetH Tryd.prog Rows.layoutLimitsRow.laid ((World.laidAll Tryd.prog os Rows.layoutLimitsRow.laid).forCall (fun _ _ => 0) ⟨#[], args, []⟩).memory := by
  rw [MakeChecks.laidMetH_plain _ _ _ (by kernel_rfl)]
  exact laidMet_laidAll _ (by kernel_rfl) (by kernel_rfl)
theorem reads (os : Os) {H : Type} (enc : TypeId × Value → H) : ∃ places, DataW.whole enc Tryd.prog ((World.laidAll Tryd.prog os Rows.layoutLimitsRow.laid).forCall (fun _ _ => 0) ⟨#[], #[.int .i64 0, .int .i64 0], []⟩).memory Tryd.f7.params.toList Rows.layoutLimitsSpec.vars false #[Value.int .i64 0, .int .i64 0].toList 8 = some ([.lit (.int .i64 0), .lit (.int .i64 0)], [], places) :=
  ⟨[], by kernel_rfl⟩
set_option maxRecDepth 100000 in
theorem lifted (os : Os) (started : os.Started) (H : Type) (enc : TypeId × Value → H) (F : Stop.Interp) :
    ReturnsInHanded {} Tryd.checked os 7 .any ((OpenSpec.ofChange Rows.layoutLimitsSpec).preRow enc Tryd.prog Tryd.f7 Rows.layoutLimitsRow.domain false Rows.layoutLimitsRow.laid) (((OpenSpec.ofChange Rows.layoutLimitsSpec).at F).post enc Tryd.prog Tryd.f7 false true false false) := by
  obtain ⟨places, hx⟩ := reads os enc
  refine returnsInHanded_of_row (C := Tryd.checked) (s := OpenSpec.ofChange Rows.layoutLimitsSpec) own started (by kernel_rfl) Tryd.func7
    ⟨World.laidAll Tryd.prog os Rows.layoutLimitsRow.laid, fun _ _ => 0, ⟨#[], #[.int .i64 0, .int .i64 0], []⟩, World.laidAll_os _ _ _, World.shaped_of_ZipB (by kernel_rfl) (by kernel_rfl), rfl, (Input.okWide_of_okWideB (by kernel_rfl)).2,
      OpenSpec.preRow_of_cond 8 hx (by kernel_rfl) (fun k hk => by cases hk) (by kernel_rfl) (met os _), by simp [Assume.holds]⟩ ?_
  intro W base args ds gs before hval0 hW _ _ _ hL hsh _
  have hval : ∀ (j : Nat) t v, Tryd.f7.params[j]? = some t → args[j]? = some v → Value.okWide Tryd.prog W .any base t v := hval0
  have hL' : laidMet Tryd.prog Rows.layoutLimitsRow.laid W := by rw [MakeChecks.laidMetH_plain _ _ _ (by kernel_rfl)] at hL; exact hL
  have LD := laid_of hL' hsh (by simp [Rows.layoutLimitsRow]) (by simp [Rows.layoutLimitsRow]) (by simp [Rows.layoutLimitsRow])
  have hW' := hW
  obtain ⟨p, q, hA0, hV, rfl, hfz, hnd⟩ := hW
  have hA : DataW.TrodAll enc Tryd.prog W 0 (fun _ => true) true Tryd.f7.params.toList args.toList ds p := hA0
  rw [Tryd.params7] at hA hval
  obtain ⟨v0, vs0, d0, ds0, p0, q0, hargs, rfl, rfl, h0, r0⟩ := trodAll_cons hA
  obtain ⟨v1, vs1, d1, ds1, p1, q1, rfl, rfl, rfl, h1, r1⟩ := trodAll_cons r0
  obtain ⟨rfl, rfl, rfl⟩ := trodAll_nil r1
  obtain rfl : args = #[v0, v1] := by cases args; simp_all
  obtain ⟨rfl, rfl⟩ := trodVars_none hV
  have k0 := h0
  have lt0 : ∀ x ∈ p0, x.block < W.heap.size := by obtain ⟨m, hm⟩ := k0; exact DataW.trod_lt m _ _ _ hm
  obtain ⟨n0, rfl⟩ := okWide_int Tryd.underlying3 (hval 0 3 v0 rfl rfl)
  have k1 := h1
  have lt1 : ∀ x ∈ p1, x.block < W.heap.size := by obtain ⟨m, hm⟩ := k1; exact DataW.trod_lt m _ _ _ hm
  obtain ⟨n1, rfl⟩ := okWide_int Tryd.underlying3 (hval 1 3 v1 rfl rfl)
  clear hA0
  simp only [List.append_nil] at hW'
  refine (walk n0 n1 W LD).mono ?_
  rintro e W' ⟨rfl, hb⟩
  exact ⟨_, rfl, _, _, _, [], _, [], hW', trodAll_mk1 (shut_bool Tryd.underlying4 _), (trodAll_cons_mk (Below.trod laidOut (by kernel_rfl) (of_decide_eq_true (by kernel_rfl)) k0 hb lt0) (trodAll_cons_mk (Below.trod laidOut (by kernel_rfl) (of_decide_eq_true (by kernel_rfl)) k1 hb lt1) trodAll_mk0)), rfl, hb.frame _, fun h => by cases h⟩

theorem said : Rows.LayoutLimitsSaid :=
  OpenClaim.holds_of_cond 7 Tryd.f7 rfl rfl rfl rfl rfl rfl rfl ⟨rfl, rfl, rfl, rfl, rfl⟩ rfl rfl rfl rfl rfl (by kernel_rfl) Tryd.func7 (by kernel_rfl)
    (of_decide_eq_true (by kernel_rfl)) (by unfold Func.isWrapper; first | (rw [if_pos (by decide +kernel)]; kernel_rfl) | (rw [if_neg (by decide +kernel)]; exact ⟨rfl, rfl⟩))
    (fun os started H enc _ F => by rw [OpenClaim.pre_eq_preRow]; exact lifted os started H enc F)
theorem plain (f : FuncId) (fn : Func) (hf : Tryd.pinned.checked.prog.funcNamed "stillage/stillagelaw06.LayoutLimits" = some f) (hfn : Tryd.pinned.checked.prog.funcs[f]? = some fn) :
    false = Tryd.pinned.checked.prog.looks [] ∧ ∀ (j : Nat) t, fn.params[j]? = some t → Tryd.pinned.checked.prog.wantsStandIn t = false := by
  obtain rfl : f = 7 := Option.some.inj ((show Tryd.prog.funcNamed "stillage/stillagelaw06.LayoutLimits" = some 7 by kernel_rfl).symm.trans hf) |>.symm
  obtain rfl : fn = Tryd.f7 := (Option.some.inj (Tryd.func7.symm.trans hfn)).symm
  refine ⟨by kernel_rfl, fun j t ht => ?_⟩
  rw [Tryd.params7] at ht
  have hm : t ∈ [3, 3] := by simpa using Array.mem_of_getElem? ht
  have hall : ([3, 3].all fun u => !Tryd.prog.wantsStandIn u) = true := by kernel_rfl
  exact (show Tryd.prog.wantsStandIn t = false by simpa using List.all_eq_true.1 hall t hm)
/-- the card -/
theorem proved : Rows.LayoutLimitsCardSaid :=
  Claim7.holds_tied_plain_at .later [] _ _ _ _ said (fun _ h => by cases h) (by kernel_rfl) (fun _ h => by cases h) layoutLimits_row_tie rfl ⟨rfl, rfl⟩ (by kernel_rfl) rfl plain (by kernel_rfl)
end Go.Proofs.YtpjolnaomdmnnaaDoor.layoutLimits
