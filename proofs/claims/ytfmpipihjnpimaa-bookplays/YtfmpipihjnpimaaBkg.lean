/- Add. -/
import Derived.Test.YtfmpipihjnpimaaBkf
namespace Go.Proofs.Ytfmpipihjnpimaa
open Go.RowKit Go.Maps Go.ChangeMaps
set_option linter.unusedVariables false

theorem Its.rot5 {w0 w : World} {a b c d e : It} {l : List It} (h : Its w0 (a :: b :: c :: d :: e :: l) w) : Its w0 (e :: a :: b :: c :: d :: l) w := h.perm ((List.Perm.cons a ((List.Perm.cons b ((List.Perm.cons c (.swap e d l)).trans (.swap e c _))).trans (.swap e b _))).trans (.swap e a _))
theorem Its.rot5' {w0 w : World} {a b c d e : It} {l : List It} (h : Its w0 (e :: a :: b :: c :: d :: l) w) : Its w0 (a :: b :: c :: d :: e :: l) w := h.perm ((List.Perm.cons a ((List.Perm.cons b ((List.Perm.cons c (.swap e d l)).trans (.swap e c _))).trans (.swap e b _))).trans (.swap e a _)).symm
theorem fnT_add (T : List (Nat × En)) (p : Nat × En) (y : Int) : fnT (T ++ [p]) y = (fnT T y).or (if p.2.r.id = y then some p else none) := by
  unfold fnT
  rw [List.find?_append]
  congr 1
  by_cases h : p.2.r.id = y
  · simp [h]
  · simp [h]
theorem kn_add {T : List (Nat × En)} {e0 : Nat} {r : Rq} (hT : fnT T r.id = none) : kn (T ++ [(e0, ⟨r, 1⟩)]) = fun y => if y = r.id then some (.pointer (some ⟨e0, 0, none⟩)) else kn T y := by
  funext y
  unfold kn
  rw [fnT_add]
  by_cases h : y = r.id
  · subst h
    rw [hT]
    simp
  · rw [if_neg h, if_neg (fun q => h q.symm)]
    simp
theorem sv_ad {S : Bk} (hok : S.Ok) (r : Rq) : Bk.sv ⟨S.all ++ [⟨r, 1⟩], S.done⟩ = S.sv := by
  funext s
  unfold Bk.sv
  apply List.filter_congr
  intro x hx
  obtain ⟨e, he, q, _⟩ := hok.dn x hx
  have h1 := fnd_of hok.nd he
  rw [q] at h1
  unfold stn
  simp only [fnd_add, h1, Option.some_or]

section
variable {w0 w : World} {g : Nat} {H : Hb} {S : Bk} {l : List It}
def ext (T : List (Nat × En)) (e0 : Nat) (r : Rq) : List (Nat × En) := T ++ [(e0, ⟨r, 1⟩)]
def adB (S : Bk) (r : Rq) : Bk := ⟨S.all ++ [⟨r, 1⟩], S.done⟩
def adIts (B g : Nat) (H : Hb) (S : Bk) (r : Rq) (e0 : Nat) : List It := [.row ptrE B H.vo ((opT H.T).map (·.1)), .ents (ext H.T e0 r), .box g #[.map (some H.kb), H.vo, .map (some H.sb)] 62, .srv B H.sb S.done.length H.fs (adB S r).sv, .mp H.kb (adB S r).all.length (kn (ext H.T e0 r))]
def enV (r : Rq) : Array Value := #[.int .i64 r.id, .int .i64 r.st, .int .i64 r.tt, .int .i64 1]
theorem add_map {W : World} {r : Rq} {y : It} (h : Its w0 (y :: .book w0.heap.size g H S :: l) W) (hT : fnT H.T r.id = none) (hi : I64 r.id) (hn : S.all.length ≤ 1000000) :
    ∃ W5, (Instr.mapUpdate 58 (.map (some H.kb)) (.int .i64 r.id) (.pointer (some ⟨W.heap.size, 0, none⟩))).run Try.prog (W.alloc (.cells (enV r) 67)).drew = .ok () W5 ∧
      Its w0 (adIts w0.heap.size g H S r W.heap.size ++ y :: l) W5 := by
  obtain ⟨hl, hlie⟩ := h.swap.bopen
  unfold adIts adB ext
  rw [sv_ad hlie.1, kn_add hT, show (S.all ++ [(⟨r, 1⟩ : En)]).length = S.all.length + 1 by simp]
  have he : ∀ q ∈ H.T, W.heap[q.1]? = some (.cells (enC q.2) 67) := hl.all (.ents H.T) (by simp [limbs])
  have h4 := ((hl.swap.chg (x' := .ents (H.T ++ [(W.heap.size, (⟨r, 1⟩ : En))])) (w' := W.alloc (.cells (enV r) 67)) (by
    intro q hq
    rcases List.mem_append.1 hq with hq | hq
    · rw [(below_new W _).block q.1 (heap_lt (he q hq))]; exact he q hq
    · simp at hq
      subst hq
      exact heap_new W _) (by
    rintro k ⟨q, hq, rfl⟩
    rcases List.mem_append.1 hq with hq | hq
    · exact .inl ⟨q, hq, rfl⟩
    · simp at hq
      subst hq
      exact .inr (Nat.le_refl _)) (Frm.of_below (below_new W _))).swap).drew 1
  obtain ⟨W5, h5, h6, h7⟩ := Mp.put Try.underlying58 (show Mp _ H.kb S.all.length (kn H.T) from h4.rot5.one) hi (.pointer (some ⟨W.heap.size, 0, none⟩)) hn
  exact ⟨W5, h5, (h4.rot5.chg (x' := .mp H.kb (S.all.length + 1) (fun y => if y = r.id then some (.pointer (some ⟨W.heap.size, 0, none⟩)) else kn H.T y)) h6 (fun k hk => .inl hk) h7).rot5'⟩
theorem add_fin {w1 w2 : World} {r : Rq} {y : It} {e0 : Nat} {v' : Value} (h : Its w0 (adIts w0.heap.size g H S r e0 ++ y :: l) w1)
    (hlie : Lie H.T S) (hok : (adB S r).Ok) (hne : ∀ p ∈ H.T, p.1 ≠ e0) (ho : ptrE.Own w2 w0.heap.size v' ((opT H.T).map (·.1) ++ [e0])) (hg : w1.grownBy w2 H.vo.ownBlock) (hb : v'.ownBlock = H.vo.ownBlock ∨ v'.ownBlock = some w1.heap.size) :
    (∃ H', Its w0 (.book w0.heap.size g H' (adB S r) :: l) (w2.setCell ⟨g, 1, none⟩ v')) ∧ w2.cell? ⟨g, 1, none⟩ = some H.vo ∧ ∀ i, w2.frozen? ⟨g, i, none⟩ = false := by
  obtain ⟨k1, k2, k3⟩ := fin_two h ho hg hb
  refine ⟨⟨⟨H.kb, H.sb, v', H.fs, ext H.T e0 r⟩, ?_⟩, k2, k3⟩
  have e1 : (opT H.T).map (·.1) ++ [e0] = (opT (ext H.T e0 r)).map (·.1) := by
    unfold ext
    rw [opT_app, List.map_append]
    rfl
  rw [e1] at k1
  refine (Its.bshut (H := ⟨H.kb, H.sb, v', H.fs, ext H.T e0 r⟩) (S := adB S r) k1 ⟨hok, ?_, ?_⟩).swap.tail
  · show S.all ++ [⟨r, 1⟩] = _
    unfold ext
    rw [hlie.2.1, List.map_append]; rfl
  · show ((H.T ++ [(e0, (⟨r, 1⟩ : En))]).map (·.1)).Nodup
    rw [List.map_append, List.nodup_append]
    refine ⟨hlie.2.2, by simp, fun a ha b hb => ?_⟩
    obtain ⟨p, hp, rfl⟩ := List.mem_map.1 ha
    simp at hb
    subst hb
    exact hne p hp
theorem ptr_new (w : World) (x : Nat) : ptrE.Rd (w.alloc (.cells #[.pointer (some ⟨x, 0, none⟩)] 63)) (.slice (some ⟨w.heap.size, 0, none⟩) 1 1) [x] := (El.Own.new ptrE w w.heap.size (Nat.le_refl _) #[.pointer (some ⟨x, 0, none⟩)] [x] rfl (by simp) _ _ _ rfl rfl rfl).rd

set_option maxRecDepth 100000 in
set_option maxHeartbeats 4000000 in
theorem add_any (h : Its w0 (.book w0.heap.size g H S :: l) w) (r : Rq) (hi : I64 r.id) (hn : S.all.length ≤ 10000) : Calls Try.prog 10 #[.pointer (some ⟨g, 0, none⟩), .agg #[.int .i64 r.id, .int .i64 r.st, .int .i64 r.tt]] w fun e w' => e = .returned (.tuple #[.bool (S.adY r), .int .i64 (S.adC r)]) ∧ ∃ H', Its w0 (.book w0.heap.size g H' (S.ad r) :: l) w' := by
  have hlie := bk_lie h.one
  have hB : Its w0 (.box w.heap.size #[.int .i64 r.id, .int .i64 r.st, .int .i64 r.tt] 31 :: .book w0.heap.size g H S :: l) (w.alloc (.cells #[.int .i64 r.id, .int .i64 r.st, .int .i64 r.tt] 31)) := h.new (x := .box w.heap.size _ 31) (heap_new w _) (fun k hk => by cases hk; exact Nat.le_refl _) (below_new w _)
  have HI1 := hide hB
  by_cases hr : rng r
  · obtain ⟨r1, r2, r3, r4⟩ := hr
    have hrr : rng r := ⟨r1, r2, r3, r4⟩
    have hl : ∀ q, (Instr.lookup 58 (.map (some H.kb)) (.int .i64 r.id) true).run Try.prog ((w.alloc (.cells #[.int .i64 r.id, .int .i64 r.st, .int .i64 r.tt] 31)).drewN q) = .ok (.tuple #[(kn H.T r.id).getD (.pointer none), .bool (kn H.T r.id).isSome]) ((w.alloc (.cells #[.int .i64 r.id, .int .i64 r.st, .int .i64 r.tt] 31)).drewN q) := fun q => (bk_mp (hB.drew q).two).look hi
    obtain ⟨c0, c1, c2, _⟩ := bk_cells hB.two
    have n1 : ¬ r.st < 0 := by omega
    have n2 : ¬ 40 ≤ r.st := by omega
    have n3 : ¬ r.tt < 1 := by omega
    have n4 : ¬ 30 < r.tt := by omega
    cases hT : fnT H.T r.id with
    | some p =>
      have hf := lie_some hlie hT
      have hadC : S.adC r = if p.2.r = r then 0 else 2 := by unfold Bk.adC; rw [if_pos hrr, hf]
      have hadY : S.adY r = false := by unfold Bk.adY; rw [hf]; simp
      rw [Bk.ad_no hadY, hadY, hadC]
      rw [kn_some hT] at hl
      simp only [Option.getD_some, Option.isSome_some] at hl
      obtain ⟨d0, d1, d2, d3, _⟩ := bk_ent hB.two (fnT_mem hT)
      have heq := fun W => rq_equal W p.2.r r
      by_cases hp : p.2.r = r
      · rw [if_pos hp]
        rw [decide_eq_true hp] at heq
        obtain ⟨b, ⟨⟨i', s', t'⟩, en⟩⟩ := p
        obtain ⟨i, s, t⟩ := r
        simp only at *
        clear h hB hlie hi hn hf hadC hadY hT hp hrr
        go_enter Try.func10, Try.ntmps10
        go_upto_region 3 with fail
        go_quiet (fail)
        go_upto_region 5 with fail
        go_quiet (fail)
        go_wp2_with fail
        go_ret2
        exact ⟨rfl, _, (HI1.out.drew _).tail⟩
      · rw [if_neg hp]
        rw [decide_eq_false hp] at heq
        obtain ⟨b, ⟨⟨i', s', t'⟩, en⟩⟩ := p
        obtain ⟨i, s, t⟩ := r
        simp only at *
        clear h hB hlie hi hn hf hadC hadY hT hp hrr
        go_enter Try.func10, Try.ntmps10
        go_upto_region 3 with fail
        go_quiet (fail)
        go_upto_region 5 with fail
        go_quiet (fail)
        go_wp2_with fail
        go_ret2
        exact ⟨rfl, _, (HI1.out.drew _).tail⟩
    | none =>
      have hf := lie_none hlie hT
      rw [kn_none hT] at hl
      simp only [Option.getD_none, Option.isSome_none] at hl
      have KW : Hid (∀ q, Calls Try.prog 24 #[.pointer (some ⟨g, 0, none⟩), .int .i64 r.tt] ((w.alloc (.cells #[.int .i64 r.id, .int .i64 r.st, .int .i64 r.tt] 31)).drewN q) fun e w' => e = .returned (.tuple #[rqV (wnt S.all r.tt), .bool (wnt S.all r.tt).isSome]) ∧ Its w0 (.box w.heap.size #[.int .i64 r.id, .int .i64 r.st, .int .i64 r.tt] 31 :: .book w0.heap.size g H S :: l) w') := hide (fun q => by
        refine (wanted_any (hB.drew q).two r.tt).mono ?_
        rintro e w' ⟨rfl, hb⟩
        exact ⟨rfl, (hB.drew q).keep hb⟩)
      obtain ⟨x, y, z, exyz⟩ := rqV_form (wnt S.all r.tt)
      rw [exyz] at KW
      by_cases hw : (wnt S.all r.tt).isSome = true
      · have hadC : S.adC r = 160 := by unfold Bk.adC; rw [if_pos hrr, hf]; simp only [if_pos hw]
        have hadY : S.adY r = false := by unfold Bk.adY; rw [hadC]; rfl
        rw [Bk.ad_no hadY, hadY, hadC]
        rw [hw] at KW
        obtain ⟨i, s, t⟩ := r
        simp only at *
        clear h hB hlie hi hn hf hadC hadY hT hrr hw exyz
        go_enter Try.func10, Try.ntmps10
        go_upto_region 3 with fail
        go_quiet (fail)
        go_wp2_with (go_at_call 24; refine (KW.out _).mono ?_; rintro e w2 ⟨rfl, h2⟩; have HI2 := hide h2; clear h2)
        go_ret2
        exact ⟨rfl, _, (HI2.out.alloc _).tail⟩
      · have hw' : (wnt S.all r.tt).isSome = false := by simpa using hw
        have hfew := hlie.1.few
        have hadY : S.adY r = true := Bk.adY_iff.2 ⟨hrr, hf, by simpa using hw', by omega⟩
        have hadC : S.adC r = 0 := by
          have := hadY
          unfold Bk.adY at this
          simp at this
          exact this.1
        have hok := hlie.1.ad (r := r) hi
        rw [Bk.ad_yes hadY] at hok ⊢
        have hok : (adB S r).Ok := hok
        rw [show (⟨S.all ++ [⟨r, 1⟩], S.done⟩ : Bk) = adB S r from rfl]
        rw [hadY, hadC]
        rw [hw'] at KW
        rw [hlie.ops, List.length_map] at hfew
        obtain ⟨a, c, ev⟩ := (bk_row h.one).rd.form
        rw [List.length_map] at ev
        obtain ⟨n, hnn⟩ : ∃ n, (opT H.T).length = n := ⟨_, rfl⟩
        rw [hnn] at hfew ev
        have m0 : ¬ (64 : Int) ≤ (n : Int) := by omega
        have HM : Hid (∀ W, Its w0 (.box w.heap.size #[.int .i64 r.id, .int .i64 r.st, .int .i64 r.tt] 31 :: .book w0.heap.size g H S :: l) W → ∃ W5, (Instr.mapUpdate 58 (.map (some H.kb)) (.int .i64 r.id) (.pointer (some ⟨W.heap.size, 0, none⟩))).run Try.prog (W.alloc (.cells (enV r) 67)).drew = .ok () W5 ∧ Its w0 (adIts w0.heap.size g H S r W.heap.size ++ .box w.heap.size #[.int .i64 r.id, .int .i64 r.st, .int .i64 r.tt] 31 :: l) W5) := hide (fun W hW => add_map (r := r) hW hT hi (by omega))
        have HFN : Hid (∀ (e0 : Nat) (w1 w2 : World) (v' : Value), Its w0 (adIts w0.heap.size g H S r e0 ++ .box w.heap.size #[.int .i64 r.id, .int .i64 r.st, .int .i64 r.tt] 31 :: l) w1 → (∀ p ∈ H.T, p.1 ≠ e0) → ptrE.Own w2 w0.heap.size v' ((opT H.T).map (fun p : Nat × En => p.1) ++ [e0]) → w1.grownBy w2 H.vo.ownBlock → (v'.ownBlock = H.vo.ownBlock ∨ v'.ownBlock = some w1.heap.size) → (∃ H', Its w0 (.book w0.heap.size g H' (adB S r) :: l) (w2.setCell ⟨g, 1, none⟩ v')) ∧ w2.cell? ⟨g, 1, none⟩ = some H.vo ∧ ∀ i, w2.frozen? ⟨g, i, none⟩ = false) := hide (fun e0 w1 w2 v' h5 hne ho hg hb => add_fin h5 hlie hok hne ho hg hb)
        have HEV := hide ev
        rw [ev] at HFN
        have HBE : Hid (∀ W, Its w0 (.box w.heap.size #[.int .i64 r.id, .int .i64 r.st, .int .i64 r.tt] 31 :: .book w0.heap.size g H S :: l) W → (W.heap[w.heap.size]? = some (.cells #[.int .i64 r.id, .int .i64 r.st, .int .i64 r.tt] 31) ∧ W.heap[g]? = some (.cells #[.map (some H.kb), .slice a n c, .map (some H.sb)] 62)) ∧ ∀ p ∈ H.T, p.1 ≠ W.heap.size) := hide (fun W hW => ⟨⟨hW.one, by rw [← ev]; exact bk_box hW.two⟩, fun p hp e => by
          have := heap_lt (bk_ents hW.two p hp)
          omega⟩)
        have HNL : Hid (((opT H.T).map (fun p : Nat × En => p.1)).length + [0].length ≤ 1000000) := hide (by simp; omega)
        have c1 : (w.alloc (.cells #[.int .i64 r.id, .int .i64 r.st, .int .i64 r.tt] 31)).cell? ⟨g, 1, none⟩ = some (.slice a n c) := by rw [← ev]; exact c1
        obtain ⟨i, s, t⟩ := r
        simp only at *
        clear h hB hlie hi hn hf hadC hadY hT hrr hw hw' exyz hok hnn ev hfew
        go_enter Try.func10, Try.ntmps10
        go_upto_region 3 with fail
        go_quiet (fail)
        clear hl c0 c1 c2
        go_upto_region 11 with (go_at_call 24; refine (KW.out _).mono ?_; rintro e w2 ⟨rfl, h2⟩; have HI2 := hide (h2.alloc (.cells #[.int .i64 x, .int .i64 y, .int .i64 z] 31)); clear h2)
        generalize w2.alloc (.cells #[.int .i64 x, .int .i64 y, .int .i64 z] 31) = W3 at *
        obtain ⟨⟨hb3, hg3⟩, hne3⟩ := HBE.out W3 HI2.out
        have HNE := hide hne3
        have b0 : W3.cell? ⟨w.heap.size, 0, none⟩ = some (.int .i64 i) := (cells_at hb3 0).1
        have b1 : W3.cell? ⟨w.heap.size, 1, none⟩ = some (.int .i64 s) := (cells_at hb3 1).1
        have b2 : W3.cell? ⟨w.heap.size, 2, none⟩ = some (.int .i64 t) := (cells_at hb3 2).1
        have g1 : W3.cell? ⟨g, 1, none⟩ = some (.slice a n c) := (cells_at hg3 1).1
        obtain ⟨W5, hput, h5⟩ := HM.out W3 HI2.out
        have H5 := hide h5
        have Hb3 := hide hb3
        have Hg3 := hide hg3
        clear hne3 h5 hb3 hg3
        go_upto_region 14 with fail
        obtain ⟨W4, hW4⟩ : ∃ W4, W4 = W3.alloc (.cells #[.int .i64 i, .int .i64 s, .int .i64 t, .int .i64 1] 67) := ⟨_, rfl⟩
        have hput : (Instr.mapUpdate 58 (.map (some H.kb)) (.int .i64 i) (.pointer (some ⟨W3.heap.size, 0, none⟩))).run Try.prog W4.drew = .ok () W5 := by rw [hW4]; exact hput
        obtain ⟨SS, hSS⟩ : ∃ SS : World → Prop, SS = fun W => W.heap[g]? = W3.heap[g]? ∧ W.heap[w.heap.size]? = W3.heap[w.heap.size]? := ⟨_, rfl⟩
        have s1 : ∀ W, SS W → W.cell? ⟨g, 0, none⟩ = some (.map (some H.kb)) := fun W hW => by
          rw [hSS] at hW
          exact (cells_at (hW.1.trans Hg3.out) 0).1
        have s2 : ∀ W, SS W → W.cell? ⟨w.heap.size, 0, none⟩ = some (.int .i64 i) := fun W hW => by
          rw [hSS] at hW
          exact (cells_at (hW.2.trans Hb3.out) 0).1
        have hS0 : SS W4.drew := by
          rw [hSS, hW4]
          exact ⟨(below_new W3 _).block g (heap_lt Hg3.out), (below_new W3 _).block _ (heap_lt Hb3.out)⟩
        rw [← hW4]
        clear hSS hW4 b0 b1 b2 g1
        refine wp_region_E SS 7 (by kernel_rfl) ?_
        refine wpAnyE_take (i := 0) (v := .pointer (some ⟨g, 0, none⟩)) rfl (by kernel_rfl) (by kernel_rfl) (by kernel_rfl) (by kernel_rfl) (fun _ _ _ h => h) (Or.inl ⟨by rfl, fun W' hW => by go_simp⟩) hS0 ?_
        refine wpAnyE_take (i := 1) (v := .pointer (some ⟨g, 0, none⟩)) rfl (by kernel_rfl) (by kernel_rfl) (by kernel_rfl) (by kernel_rfl) (fun _ _ _ h => h) (Or.inl ⟨by rfl, fun W' hW => by go_simp⟩) hS0 ?_
        refine wpAnyE_take (i := 2) (v := .pointer (some ⟨g, 0, none⟩)) rfl (by kernel_rfl) (by kernel_rfl) (by kernel_rfl) (by kernel_rfl) (fun _ _ _ h => h) (Or.inl ⟨by rfl, fun W' hW => by go_simp⟩) hS0 ?_
        refine wpAnyE_take (i := 3) (v := .map (some H.kb)) rfl (by kernel_rfl) (by kernel_rfl) (by kernel_rfl) (by kernel_rfl) (fun _ _ _ h => h) (Or.inl ⟨by rfl, fun W' hW => by have z0 := s1 W' hW; go_simp⟩) hS0 ?_
        refine wpAnyE_take (i := 4) (v := .pointer (some ⟨w.heap.size, 0, none⟩)) rfl (by kernel_rfl) (by kernel_rfl) (by kernel_rfl) (by kernel_rfl) (fun _ _ _ h => h) (Or.inl ⟨by rfl, fun W' hW => by go_simp⟩) hS0 ?_
        refine wpAnyE_take (i := 5) (v := .int .i64 i) rfl (by kernel_rfl) (by kernel_rfl) (by kernel_rfl) (by kernel_rfl) (fun _ _ _ h => h) (Or.inl ⟨by rfl, fun W' hW => by have z0 := s2 W' hW; go_simp⟩) hS0 ?_
        refine wpAnyE_take (i := 6) (v := .pointer (some ⟨W3.heap.size, 0, none⟩)) rfl (by kernel_rfl) (by kernel_rfl) (by kernel_rfl) (by kernel_rfl) (fun _ _ _ h => h) (Or.inl ⟨by rfl, fun W' hW => by go_simp⟩) hS0 ?_
        refine wpAnyE_ready (rs := [7]) (by kernel_rfl) (by simp) ?_
        refine AllReadyE.cons rfl (fun K hK => ?_) AllReadyE.nil
        go_simp
        refine hK.out _ _ (fun h => absurd rfl h) ?_
        clear hK K
        refine wpAnyE_done (by kernel_rfl) ?_ _
        clear s1 s2 hS0 hput
        have hg5 : W5.heap[g]? = some (.cells #[.map (some H.kb), .slice a n c, .map (some H.sb)] 62) := by rw [← HEV.out]; exact H5.out.three
        have HO6 : Hid (ptrE.Own (W5.alloc (.cells #[.pointer (some ⟨W3.heap.size, 0, none⟩)] 63)) w0.heap.size (.slice a n c) ((opT H.T).map (fun p : Nat × En => p.1))) := hide (by rw [← HEV.out]; exact (H5.out.alloc _).one)
        have f1 : W5.cell? ⟨g, 1, none⟩ = some (.slice a n c) := (cells_at hg5 1).1
        have H6 := hide (H5.out.alloc (.cells #[.pointer (some ⟨W3.heap.size, 0, none⟩)] 63))
        have HR6 : Hid (ptrE.Rd (W5.alloc (.cells #[.pointer (some ⟨W3.heap.size, 0, none⟩)] 63)) (.slice (some ⟨W5.heap.size, 0, none⟩) 1 1) [W3.heap.size]) := hide (ptr_new W5 _)
        have HF6 : Hid (∀ v' w2, ptrE.Own w2 w0.heap.size v' ((opT H.T).map (fun p : Nat × En => p.1) ++ [W3.heap.size]) → (W5.alloc (.cells #[.pointer (some ⟨W3.heap.size, 0, none⟩)] 63)).grownBy w2 (Value.slice a n c).ownBlock → (v'.ownBlock = (Value.slice a n c).ownBlock ∨ v'.ownBlock = some (W5.alloc (.cells #[.pointer (some ⟨W3.heap.size, 0, none⟩)] 63)).heap.size) → (∃ H', Its w0 (.book w0.heap.size g H' (adB S ⟨i, s, t⟩) :: l) (w2.setCell ⟨g, 1, none⟩ v')) ∧ w2.cell? ⟨g, 1, none⟩ = some (.slice a n c) ∧ ∀ i, w2.frozen? ⟨g, i, none⟩ = false) := hide (fun v' w2 ho hg hb => HFN.out W3.heap.size _ w2 v' H6.out HNE.out ho hg hb)
        clear HFN hg5 Hg3 Hb3
        generalize W3.heap.size = e0 at *
        go_wp2_with (at_builtin; refine ptrE.wpB (B := w0.heap.size) H6.out.size (by rfl) _ _ rfl _ _ rfl rfl _ _ HO6.out HR6.out HNL.out ?_; intro v7 w7 ho hg hs; obtain ⟨a7, n7, hf7⟩ := ho.rd.form; subst hf7; obtain ⟨t1, x4, x5⟩ := HF6.out _ _ ho hg hs; have HT1 := hide t1; generalize ((opT H.T).map (fun p : Nat × En => p.1) ++ [e0]).length = n8 at *; clear ho hg hs t1)
        go_ret2
        exact ⟨rfl, HT1.out⟩
  · have hadC : S.adC r = 1 := if_neg hr
    have hadY : S.adY r = false := by unfold Bk.adY; rw [hadC]; rfl
    rw [Bk.ad_no hadY, hadY, hadC]
    have hr' : r.st < 0 ∨ (¬ r.st < 0 ∧ 40 ≤ r.st) ∨ (¬ r.st < 0 ∧ ¬ 40 ≤ r.st ∧ r.tt < 1) ∨ (¬ r.st < 0 ∧ ¬ 40 ≤ r.st ∧ ¬ r.tt < 1 ∧ 30 < r.tt) := by
      unfold rng at hr
      omega
    obtain ⟨i, s, t⟩ := r
    simp only at *
    clear h hB hlie hi hn hadC hadY hr
    rcases hr' with q1 | ⟨q1, q2⟩ | ⟨q1, q2, q3⟩ | ⟨q1, q2, q3, q4⟩
    · go_enter Try.func10, Try.ntmps10
      go_wp2_with fail
      go_ret2
      exact ⟨rfl, _, HI1.out.tail⟩
    · go_enter Try.func10, Try.ntmps10
      go_wp2_with fail
      go_ret2
      exact ⟨rfl, _, HI1.out.tail⟩
    · go_enter Try.func10, Try.ntmps10
      go_wp2_with fail
      go_ret2
      exact ⟨rfl, _, HI1.out.tail⟩
    · go_enter Try.func10, Try.ntmps10
      go_wp2_with fail
      go_ret2
      exact ⟨rfl, _, HI1.out.tail⟩
end
end Go.Proofs.Ytfmpipihjnpimaa
