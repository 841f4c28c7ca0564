/- ControlOrders: texts Bkg Bkh Wts Stp Stq Pat. -/
import Derived.Deep.RegionWith
import Derived.Test.YtocmngpoemfpkaaGreatDoorControlOrdersAG
import Derived.Test.YtocmngpoemfpkaaGreatDoorControlOrdersAI
import Derived.Test.YtocmngpoemfpkaaGreatDoorControlOrdersAJ
namespace Go.Proofs.YtocmngpoemfpkaaGreatDoor
open Go.RowKit Go.Maps Go.ChangeMaps
set_option linter.unusedVariables false
theorem Its.rot5 {w0 w : World} {a b c d e : It} {l : List It} (h : Its w0 (a :: b :: c :: d :: e :: l) w) : Its w0 (e :: a :: b :: c :: d :: l) w := h.perm ((List.Perm.cons a ((List.Perm.cons b ((List.Perm.cons c (.swap e d l)).trans (.swap e c _))).trans (.swap e b _))).trans (.swap e a _))
theorem Its.rot5' {w0 w : World} {a b c d e : It} {l : List It} (h : Its w0 (e :: a :: b :: c :: d :: l) w) : Its w0 (a :: b :: c :: d :: e :: l) w := h.perm ((List.Perm.cons a ((List.Perm.cons b ((List.Perm.cons c (.swap e d l)).trans (.swap e c _))).trans (.swap e b _))).trans (.swap e a _)).symm
theorem fnT_add (T : List (Nat × En)) (p : Nat × En) (y : Int) : fnT (T ++ [p]) y = (fnT T y).or (if p.2.r.id = y then some p else none) := by
  unfold fnT
  rw [List.find?_append]
  congr 1
  by_cases h : p.2.r.id = y
  · simp [h]
  · simp [h]
theorem kn_add {T : List (Nat × En)} {e0 : Nat} {r : Rq} (hT : fnT T r.id = none) : kn (T ++ [(e0, ⟨r, 1⟩)]) = fun y => if y = r.id then some (.pointer (some ⟨e0, 0, none⟩)) else kn T y := by
  funext y
  unfold kn
  rw [fnT_add]
  by_cases h : y = r.id
  · subst h
    rw [hT]
    simp
  · rw [if_neg h, if_neg (fun q => h q.symm)]
    simp
theorem sv_ad {S : Bk} (hok : S.Ok) (r : Rq) : Bk.sv ⟨S.all ++ [⟨r, 1⟩], S.done⟩ = S.sv := by
  funext s
  unfold Bk.sv
  apply List.filter_congr
  intro x hx
  obtain ⟨e, he, q, _⟩ := hok.dn x hx
  have h1 := fnd_of hok.nd he
  rw [q] at h1
  unfold stn
  simp only [fnd_add, h1, Option.some_or]
section
variable {w0 w : World} {g : Nat} {H : Hb} {S : Bk} {l : List It}
def ext (T : List (Nat × En)) (e0 : Nat) (r : Rq) : List (Nat × En) := T ++ [(e0, ⟨r, 1⟩)]
def adB (S : Bk) (r : Rq) : Bk := ⟨S.all ++ [⟨r, 1⟩], S.done⟩
def adIts (B g : Nat) (H : Hb) (S : Bk) (r : Rq) (e0 : Nat) : List It := [.row ptrE B H.vo ((opT H.T).map (·.1)), .ents (ext H.T e0 r), .box g #[.map (some H.kb), H.vo, .map (some H.sb)] 226, .srv B H.sb S.done.length H.fs (adB S r).sv, .mp H.kb (adB S r).all.length (kn (ext H.T e0 r))]
def enV (r : Rq) : Array Value := #[.int .i64 r.id, .int .i64 r.st, .int .i64 r.tt, .int .i64 1]
theorem add_map {W : World} {r : Rq} {y : It} (h : Its w0 (y :: .book w0.heap.size g H S :: l) W) (hT : fnT H.T r.id = none) (hiB : I64 r.id) (hn : S.all.length ≤ 1000000) :
    ∃ W5, (Instr.mapUpdate 222 (.map (some H.kb)) (.int .i64 r.id) (.pointer (some ⟨W.heap.size, 0, none⟩))).run Tryz.prog (W.alloc (.cells (enV r) 229)).drew = .ok () W5 ∧
      Its w0 (adIts w0.heap.size g H S r W.heap.size ++ y :: l) W5 := by
  obtain ⟨hl, hlie⟩ := h.swap.bopen
  unfold adIts adB ext
  rw [sv_ad hlie.1, kn_add hT, show (S.all ++ [(⟨r, 1⟩ : En)]).length = S.all.length + 1 by simp]
  have he : ∀ q ∈ H.T, W.heap[q.1]? = some (.cells (enC q.2) 229) := hl.all (.ents H.T) (by simp [limbs])
  have h4 := ((hl.swap.chg (x' := .ents (H.T ++ [(W.heap.size, (⟨r, 1⟩ : En))])) (w' := W.alloc (.cells (enV r) 229)) (by
    intro q hq
    rcases List.mem_append.1 hq with hq | hq
    · rw [(below_new W _).block q.1 (heap_lt (he q hq))]; exact he q hq
    · simp at hq
      subst hq
      exact heap_new W _) (by
    rintro k ⟨q, hq, rfl⟩
    rcases List.mem_append.1 hq with hq | hq
    · exact .inl ⟨q, hq, rfl⟩
    · simp at hq
      subst hq
      exact .inr (Nat.le_refl _)) (Frm.of_below (below_new W _))).swap).drew 1
  obtain ⟨W5, h5, h6, h7⟩ := Mpi.put Tryz.underlying222 (show Mpi _ H.kb S.all.length (kn H.T) from h4.rot5.one) hiB (.pointer (some ⟨W.heap.size, 0, none⟩)) hn
  exact ⟨W5, h5, (h4.rot5.chg (x' := .mp H.kb (S.all.length + 1) (fun y => if y = r.id then some (.pointer (some ⟨W.heap.size, 0, none⟩)) else kn H.T y)) h6 (fun k hk => .inl hk) h7).rot5'⟩
theorem add_fin {w1 w2 : World} {r : Rq} {y : It} {e0 : Nat} {v' : Value} (h : Its w0 (adIts w0.heap.size g H S r e0 ++ y :: l) w1)
    (hlie : Lie H.T S) (hok : (adB S r).Ok) (hne : ∀ p ∈ H.T, p.1 ≠ e0) (ho : ptrE.Own w2 w0.heap.size v' ((opT H.T).map (·.1) ++ [e0])) (hg : w1.grownBy w2 H.vo.ownBlock) (hb : v'.ownBlock = H.vo.ownBlock ∨ v'.ownBlock = some w1.heap.size) :
    (∃ H', Its w0 (.book w0.heap.size g H' (adB S r) :: l) (w2.setCell ⟨g, 1, none⟩ v')) ∧ w2.cell? ⟨g, 1, none⟩ = some H.vo ∧ ∀ i, w2.frozen? ⟨g, i, none⟩ = false := by
  obtain ⟨k1, k2, k3⟩ := fin_two h ho hg hb
  refine ⟨⟨⟨H.kb, H.sb, v', H.fs, ext H.T e0 r⟩, ?_⟩, k2, k3⟩
  have e1 : (opT H.T).map (·.1) ++ [e0] = (opT (ext H.T e0 r)).map (·.1) := by
    unfold ext
    rw [opT_app, List.map_append]
    rfl
  rw [e1] at k1
  refine (Its.bshut (H := ⟨H.kb, H.sb, v', H.fs, ext H.T e0 r⟩) (S := adB S r) k1 ⟨hok, ?_, ?_⟩).swap.tail
  · show S.all ++ [⟨r, 1⟩] = _
    unfold ext
    rw [hlie.2.1, List.map_append]; rfl
  · show ((H.T ++ [(e0, (⟨r, 1⟩ : En))]).map (·.1)).Nodup
    rw [List.map_append, List.nodup_append]
    refine ⟨hlie.2.2, by simp, fun a ha b hb => ?_⟩
    obtain ⟨p, hp, rfl⟩ := List.mem_map.1 ha
    simp at hb
    subst hb
    exact hne p hp
theorem ptr_new (w : World) (x : Nat) : ptrE.Rd (w.alloc (.cells #[.pointer (some ⟨x, 0, none⟩)] 220)) (.slice (some ⟨w.heap.size, 0, none⟩) 1 1) [x] := (El.Own.new ptrE w w.heap.size (Nat.le_refl _) #[.pointer (some ⟨x, 0, none⟩)] [x] rfl (by simp) _ _ _ rfl rfl rfl).rd
set_option maxRecDepth 100000 in
set_option maxHeartbeats 4000000 in
theorem add_any (h : Its w0 (.book w0.heap.size g H S :: l) w) (r : Rq) (hiB : I64 r.id) (hn : S.all.length ≤ 10000) : Calls Tryz.prog 80 #[.pointer (some ⟨g, 0, none⟩), .agg #[.int .i64 r.id, .int .i64 r.st, .int .i64 r.tt]] w fun e w' => e = .returned (.tuple #[.bool (S.adY r), .int .i64 (S.adC r)]) ∧ ∃ H', Its w0 (.book w0.heap.size g H' (S.ad r) :: l) w' := by
  have hlie := bk_lie h.one
  have hB : Its w0 (.box w.heap.size #[.int .i64 r.id, .int .i64 r.st, .int .i64 r.tt] 57 :: .book w0.heap.size g H S :: l) (w.alloc (.cells #[.int .i64 r.id, .int .i64 r.st, .int .i64 r.tt] 57)) := h.new (x := .box w.heap.size _ 57) (heap_new w _) (fun k hk => by cases hk; exact Nat.le_refl _) (below_new w _)
  have HI1 := hide hB
  by_cases hr : rng r
  · obtain ⟨r1, r2, r3, r4⟩ := hr
    have hrr : rng r := ⟨r1, r2, r3, r4⟩
    have hl : ∀ q, (Instr.lookup 222 (.map (some H.kb)) (.int .i64 r.id) true).run Tryz.prog ((w.alloc (.cells #[.int .i64 r.id, .int .i64 r.st, .int .i64 r.tt] 57)).drewN q) = .ok (.tuple #[(kn H.T r.id).getD (.pointer none), .bool (kn H.T r.id).isSome]) ((w.alloc (.cells #[.int .i64 r.id, .int .i64 r.st, .int .i64 r.tt] 57)).drewN q) := fun q => (bk_mp (hB.drew q).two).look hiB
    obtain ⟨c0, c1, c2, _⟩ := bk_cells hB.two
    have n1 : ¬ r.st < 0 := by omega
    have n2 : ¬ 40 ≤ r.st := by omega
    have n3 : ¬ r.tt < 1 := by omega
    have n4 : ¬ 30 < r.tt := by omega
    cases hT : fnT H.T r.id with
    | some p =>
      have hf := lie_some hlie hT
      have hadC : S.adC r = if p.2.r = r then 0 else 2 := by unfold Bk.adC; rw [if_pos hrr, hf]
      have hadY : S.adY r = false := by unfold Bk.adY; rw [hf]; simp
      rw [Bk.ad_no hadY, hadY, hadC]
      rw [kn_some hT] at hl
      simp only [Option.getD_some, Option.isSome_some] at hl
      obtain ⟨d0, d1, d2, d3, _⟩ := bk_ent hB.two (fnT_mem hT)
      have heq := fun W => rq_equal W p.2.r r
      by_cases hp : p.2.r = r
      · rw [if_pos hp]
        rw [decide_eq_true hp] at heq
        obtain ⟨b, ⟨⟨i', s', t'⟩, en⟩⟩ := p
        obtain ⟨i, s, t⟩ := r
        simp only at *
        clear h hB hlie hiB hn hf hadC hadY hT hp hrr
        go_enter Tryz.func80, Tryz.ntmps80
        go_upto_region 3 with fail
        go_quiet (fail)
        go_upto_region 5 with fail
        go_quiet (fail)
        go_wp2_with fail
        go_ret2
        exact ⟨rfl, _, (HI1.out.drew _).tail⟩
      · rw [if_neg hp]
        rw [decide_eq_false hp] at heq
        obtain ⟨b, ⟨⟨i', s', t'⟩, en⟩⟩ := p
        obtain ⟨i, s, t⟩ := r
        simp only at *
        clear h hB hlie hiB hn hf hadC hadY hT hp hrr
        go_enter Tryz.func80, Tryz.ntmps80
        go_upto_region 3 with fail
        go_quiet (fail)
        go_upto_region 5 with fail
        go_quiet (fail)
        go_wp2_with fail
        go_ret2
        exact ⟨rfl, _, (HI1.out.drew _).tail⟩
    | none =>
      have hf := lie_none hlie hT
      rw [kn_none hT] at hl
      simp only [Option.getD_none, Option.isSome_none] at hl
      have KW : Hid (∀ q, Calls Tryz.prog 141 #[.pointer (some ⟨g, 0, none⟩), .int .i64 r.tt] ((w.alloc (.cells #[.int .i64 r.id, .int .i64 r.st, .int .i64 r.tt] 57)).drewN q) fun e w' => e = .returned (.tuple #[rqV (wnt S.all r.tt), .bool (wnt S.all r.tt).isSome]) ∧ Its w0 (.box w.heap.size #[.int .i64 r.id, .int .i64 r.st, .int .i64 r.tt] 57 :: .book w0.heap.size g H S :: l) w') := hide (fun q => by
        refine (wanted_any (hB.drew q).two r.tt).mono ?_
        rintro e w' ⟨rfl, hb⟩
        exact ⟨rfl, (hB.drew q).keep hb⟩)
      obtain ⟨x, y, z, exyz⟩ := rqV_form (wnt S.all r.tt)
      rw [exyz] at KW
      by_cases hw : (wnt S.all r.tt).isSome = true
      · have hadC : S.adC r = 160 := by unfold Bk.adC; rw [if_pos hrr, hf]; simp only [if_pos hw]
        have hadY : S.adY r = false := by unfold Bk.adY; rw [hadC]; rfl
        rw [Bk.ad_no hadY, hadY, hadC]
        rw [hw] at KW
        obtain ⟨i, s, t⟩ := r
        simp only at *
        clear h hB hlie hiB hn hf hadC hadY hT hrr hw exyz
        go_enter Tryz.func80, Tryz.ntmps80
        go_upto_region 3 with fail
        go_quiet (fail)
        go_wp2_with (go_at_call 141; refine (KW.out _).mono ?_; rintro e w2 ⟨rfl, h2⟩; have HI2 := hide h2; clear h2)
        go_ret2
        exact ⟨rfl, _, (HI2.out.alloc _).tail⟩
      · have hw' : (wnt S.all r.tt).isSome = false := by simpa using hw
        have hfew := hlie.1.few
        have hadY : S.adY r = true := Bk.adY_iff.2 ⟨hrr, hf, by simpa using hw', by omega⟩
        have hadC : S.adC r = 0 := by
          have := hadY
          unfold Bk.adY at this
          simp at this
          exact this.1
        have hok := hlie.1.ad (r := r) hiB
        rw [Bk.ad_yes hadY] at hok ⊢
        have hok : (adB S r).Ok := hok
        rw [show (⟨S.all ++ [⟨r, 1⟩], S.done⟩ : Bk) = adB S r from rfl]
        rw [hadY, hadC]
        rw [hw'] at KW
        rw [hlie.ops, List.length_map] at hfew
        obtain ⟨a, c, ev⟩ := (bk_row h.one).rd.form
        rw [List.length_map] at ev
        obtain ⟨n, hnn⟩ : ∃ n, (opT H.T).length = n := ⟨_, rfl⟩
        rw [hnn] at hfew ev
        have m0 : ¬ (64 : Int) ≤ (n : Int) := by omega
        have HM : Hid (∀ W, Its w0 (.box w.heap.size #[.int .i64 r.id, .int .i64 r.st, .int .i64 r.tt] 57 :: .book w0.heap.size g H S :: l) W → ∃ W5, (Instr.mapUpdate 222 (.map (some H.kb)) (.int .i64 r.id) (.pointer (some ⟨W.heap.size, 0, none⟩))).run Tryz.prog (W.alloc (.cells (enV r) 229)).drew = .ok () W5 ∧ Its w0 (adIts w0.heap.size g H S r W.heap.size ++ .box w.heap.size #[.int .i64 r.id, .int .i64 r.st, .int .i64 r.tt] 57 :: l) W5) := hide (fun W hW => add_map (r := r) hW hT hiB (by omega))
        have HFN : Hid (∀ (e0 : Nat) (w1 w2 : World) (v' : Value), Its w0 (adIts w0.heap.size g H S r e0 ++ .box w.heap.size #[.int .i64 r.id, .int .i64 r.st, .int .i64 r.tt] 57 :: l) w1 → (∀ p ∈ H.T, p.1 ≠ e0) → ptrE.Own w2 w0.heap.size v' ((opT H.T).map (fun p : Nat × En => p.1) ++ [e0]) → w1.grownBy w2 H.vo.ownBlock → (v'.ownBlock = H.vo.ownBlock ∨ v'.ownBlock = some w1.heap.size) → (∃ H', Its w0 (.book w0.heap.size g H' (adB S r) :: l) (w2.setCell ⟨g, 1, none⟩ v')) ∧ w2.cell? ⟨g, 1, none⟩ = some H.vo ∧ ∀ i, w2.frozen? ⟨g, i, none⟩ = false) := hide (fun e0 w1 w2 v' h5 hne ho hg hb => add_fin h5 hlie hok hne ho hg hb)
        have HEV := hide ev
        rw [ev] at HFN
        have HBE : Hid (∀ W, Its w0 (.box w.heap.size #[.int .i64 r.id, .int .i64 r.st, .int .i64 r.tt] 57 :: .book w0.heap.size g H S :: l) W → (W.heap[w.heap.size]? = some (.cells #[.int .i64 r.id, .int .i64 r.st, .int .i64 r.tt] 57) ∧ W.heap[g]? = some (.cells #[.map (some H.kb), .slice a n c, .map (some H.sb)] 226)) ∧ ∀ p ∈ H.T, p.1 ≠ W.heap.size) := hide (fun W hW => ⟨⟨hW.one, by rw [← ev]; exact bk_box hW.two⟩, fun p hp e => by
          have := heap_lt (bk_ents hW.two p hp)
          omega⟩)
        have HNL : Hid (((opT H.T).map (fun p : Nat × En => p.1)).length + [0].length ≤ 1000000) := hide (by simp; omega)
        have c1 : (w.alloc (.cells #[.int .i64 r.id, .int .i64 r.st, .int .i64 r.tt] 57)).cell? ⟨g, 1, none⟩ = some (.slice a n c) := by rw [← ev]; exact c1
        obtain ⟨i, s, t⟩ := r
        simp only at *
        clear h hB hlie hiB hn hf hadC hadY hT hrr hw hw' exyz hok hnn ev hfew
        go_enter Tryz.func80, Tryz.ntmps80
        go_upto_region 3 with fail
        go_quiet (fail)
        clear hl c0 c1 c2
        go_upto_region 11 with (go_at_call 141; refine (KW.out _).mono ?_; rintro e w2 ⟨rfl, h2⟩; have HI2 := hide (h2.alloc (.cells #[.int .i64 x, .int .i64 y, .int .i64 z] 57)); clear h2)
        generalize w2.alloc (.cells #[.int .i64 x, .int .i64 y, .int .i64 z] 57) = W3 at *
        obtain ⟨⟨hb3, hg3⟩, hne3⟩ := HBE.out W3 HI2.out
        have HNE := hide hne3
        have b0 : W3.cell? ⟨w.heap.size, 0, none⟩ = some (.int .i64 i) := (cells_at hb3 0).1
        have b1 : W3.cell? ⟨w.heap.size, 1, none⟩ = some (.int .i64 s) := (cells_at hb3 1).1
        have b2 : W3.cell? ⟨w.heap.size, 2, none⟩ = some (.int .i64 t) := (cells_at hb3 2).1
        have g1 : W3.cell? ⟨g, 1, none⟩ = some (.slice a n c) := (cells_at hg3 1).1
        obtain ⟨W5, hput, h5⟩ := HM.out W3 HI2.out
        have H5 := hide h5
        have Hb3 := hide hb3
        have Hg3 := hide hg3
        clear hne3 h5 hb3 hg3
        go_upto_region 14 with fail
        obtain ⟨W4, hW4⟩ : ∃ W4, W4 = W3.alloc (.cells #[.int .i64 i, .int .i64 s, .int .i64 t, .int .i64 1] 229) := ⟨_, rfl⟩
        have hput : (Instr.mapUpdate 222 (.map (some H.kb)) (.int .i64 i) (.pointer (some ⟨W3.heap.size, 0, none⟩))).run Tryz.prog W4.drew = .ok () W5 := by rw [hW4]; exact hput
        obtain ⟨SS, hSS⟩ : ∃ SS : World → Prop, SS = fun W => W.heap[g]? = W3.heap[g]? ∧ W.heap[w.heap.size]? = W3.heap[w.heap.size]? := ⟨_, rfl⟩
        have s1 : ∀ W, SS W → W.cell? ⟨g, 0, none⟩ = some (.map (some H.kb)) := fun W hW => by
          rw [hSS] at hW
          exact (cells_at (hW.1.trans Hg3.out) 0).1
        have s2 : ∀ W, SS W → W.cell? ⟨w.heap.size, 0, none⟩ = some (.int .i64 i) := fun W hW => by
          rw [hSS] at hW
          exact (cells_at (hW.2.trans Hb3.out) 0).1
        have hS0 : SS W4.drew := by
          rw [hSS, hW4]
          exact ⟨(below_new W3 _).block g (heap_lt Hg3.out), (below_new W3 _).block _ (heap_lt Hb3.out)⟩
        rw [← hW4]
        clear hSS hW4 b0 b1 b2 g1
        refine wp_region_E SS 7 (by kernel_rfl) ?_
        refine wpAnyE_take (i := 0) (v := .pointer (some ⟨g, 0, none⟩)) rfl (by kernel_rfl) (by kernel_rfl) (by kernel_rfl) (by kernel_rfl) (fun _ _ _ h => h) (Or.inl ⟨by rfl, fun W' hW => by go_simp⟩) hS0 ?_
        refine wpAnyE_take (i := 1) (v := .pointer (some ⟨g, 0, none⟩)) rfl (by kernel_rfl) (by kernel_rfl) (by kernel_rfl) (by kernel_rfl) (fun _ _ _ h => h) (Or.inl ⟨by rfl, fun W' hW => by go_simp⟩) hS0 ?_
        refine wpAnyE_take (i := 2) (v := .pointer (some ⟨g, 0, none⟩)) rfl (by kernel_rfl) (by kernel_rfl) (by kernel_rfl) (by kernel_rfl) (fun _ _ _ h => h) (Or.inl ⟨by rfl, fun W' hW => by go_simp⟩) hS0 ?_
        refine wpAnyE_take (i := 3) (v := .map (some H.kb)) rfl (by kernel_rfl) (by kernel_rfl) (by kernel_rfl) (by kernel_rfl) (fun _ _ _ h => h) (Or.inl ⟨by rfl, fun W' hW => by have z0 := s1 W' hW; go_simp⟩) hS0 ?_
        refine wpAnyE_take (i := 4) (v := .pointer (some ⟨w.heap.size, 0, none⟩)) rfl (by kernel_rfl) (by kernel_rfl) (by kernel_rfl) (by kernel_rfl) (fun _ _ _ h => h) (Or.inl ⟨by rfl, fun W' hW => by go_simp⟩) hS0 ?_
        refine wpAnyE_take (i := 5) (v := .int .i64 i) rfl (by kernel_rfl) (by kernel_rfl) (by kernel_rfl) (by kernel_rfl) (fun _ _ _ h => h) (Or.inl ⟨by rfl, fun W' hW => by have z0 := s2 W' hW; go_simp⟩) hS0 ?_
        refine wpAnyE_take (i := 6) (v := .pointer (some ⟨W3.heap.size, 0, none⟩)) rfl (by kernel_rfl) (by kernel_rfl) (by kernel_rfl) (by kernel_rfl) (fun _ _ _ h => h) (Or.inl ⟨by rfl, fun W' hW => by go_simp⟩) hS0 ?_
        refine wpAnyE_ready (rs := [7]) (by kernel_rfl) (by simp) ?_
        refine AllReadyE.cons rfl (fun K hK => ?_) AllReadyE.nil
        go_simp
        refine hK.out _ _ (fun h => absurd rfl h) ?_
        clear hK K
        refine wpAnyE_done (by kernel_rfl) ?_ _
        clear s1 s2 hS0 hput
        have hg5 : W5.heap[g]? = some (.cells #[.map (some H.kb), .slice a n c, .map (some H.sb)] 226) := by rw [← HEV.out]; exact H5.out.three
        have HO6 : Hid (ptrE.Own (W5.alloc (.cells #[.pointer (some ⟨W3.heap.size, 0, none⟩)] 220)) w0.heap.size (.slice a n c) ((opT H.T).map (fun p : Nat × En => p.1))) := hide (by rw [← HEV.out]; exact (H5.out.alloc _).one)
        have f1 : W5.cell? ⟨g, 1, none⟩ = some (.slice a n c) := (cells_at hg5 1).1
        have H6 := hide (H5.out.alloc (.cells #[.pointer (some ⟨W3.heap.size, 0, none⟩)] 220))
        have HR6 : Hid (ptrE.Rd (W5.alloc (.cells #[.pointer (some ⟨W3.heap.size, 0, none⟩)] 220)) (.slice (some ⟨W5.heap.size, 0, none⟩) 1 1) [W3.heap.size]) := hide (ptr_new W5 _)
        have HF6 : Hid (∀ v' w2, ptrE.Own w2 w0.heap.size v' ((opT H.T).map (fun p : Nat × En => p.1) ++ [W3.heap.size]) → (W5.alloc (.cells #[.pointer (some ⟨W3.heap.size, 0, none⟩)] 220)).grownBy w2 (Value.slice a n c).ownBlock → (v'.ownBlock = (Value.slice a n c).ownBlock ∨ v'.ownBlock = some (W5.alloc (.cells #[.pointer (some ⟨W3.heap.size, 0, none⟩)] 220)).heap.size) → (∃ H', Its w0 (.book w0.heap.size g H' (adB S ⟨i, s, t⟩) :: l) (w2.setCell ⟨g, 1, none⟩ v')) ∧ w2.cell? ⟨g, 1, none⟩ = some (.slice a n c) ∧ ∀ i, w2.frozen? ⟨g, i, none⟩ = false) := hide (fun v' w2 ho hg hb => HFN.out W3.heap.size _ w2 v' H6.out HNE.out ho hg hb)
        clear HFN hg5 Hg3 Hb3
        generalize W3.heap.size = e0 at *
        go_wp2_with (at_builtin; refine ptrE.wpB (B := w0.heap.size) H6.out.size (by rfl) _ _ rfl _ _ rfl rfl _ _ HO6.out HR6.out HNL.out ?_; intro v7 w7 ho hg hs; obtain ⟨a7, n7, hf7⟩ := ho.rd.form; subst hf7; obtain ⟨t1, x4, x5⟩ := HF6.out _ _ ho hg hs; have HT1 := hide t1; generalize ((opT H.T).map (fun p : Nat × En => p.1) ++ [e0]).length = n8 at *; clear ho hg hs t1)
        go_ret2
        exact ⟨rfl, HT1.out⟩
  · have hadC : S.adC r = 1 := if_neg hr
    have hadY : S.adY r = false := by unfold Bk.adY; rw [hadC]; rfl
    rw [Bk.ad_no hadY, hadY, hadC]
    have hr' : r.st < 0 ∨ (¬ r.st < 0 ∧ 40 ≤ r.st) ∨ (¬ r.st < 0 ∧ ¬ 40 ≤ r.st ∧ r.tt < 1) ∨ (¬ r.st < 0 ∧ ¬ 40 ≤ r.st ∧ ¬ r.tt < 1 ∧ 30 < r.tt) := by
      unfold rng at hr
      omega
    obtain ⟨i, s, t⟩ := r
    simp only at *
    clear h hB hlie hiB hn hadC hadY hr
    rcases hr' with q1 | ⟨q1, q2⟩ | ⟨q1, q2, q3⟩ | ⟨q1, q2, q3, q4⟩
    · go_enter Tryz.func80, Tryz.ntmps80
      go_wp2_with fail
      go_ret2
      exact ⟨rfl, _, HI1.out.tail⟩
    · go_enter Tryz.func80, Tryz.ntmps80
      go_wp2_with fail
      go_ret2
      exact ⟨rfl, _, HI1.out.tail⟩
    · go_enter Tryz.func80, Tryz.ntmps80
      go_wp2_with fail
      go_ret2
      exact ⟨rfl, _, HI1.out.tail⟩
    · go_enter Tryz.func80, Tryz.ntmps80
      go_wp2_with fail
      go_ret2
      exact ⟨rfl, _, HI1.out.tail⟩
end
end Go.Proofs.YtocmngpoemfpkaaGreatDoor

namespace Go.Proofs.YtocmngpoemfpkaaGreatDoor
open Go.RowKit Go.Maps Go.ChangeMaps
set_option linter.unusedVariables false
def rqE : El Tryz.prog Rq where
  t := 103
  e := 57
  k := 3
  by' := 24
  z := .agg #[.int .i64 0, .int .i64 0, .int .i64 0]
  enc r := [.int .i64 r.id, .int .i64 r.st, .int .i64 r.tt]
  ht := Tryz.underlying103
  info := by kernel_rfl
  zc := rfl
  kpos := by omega
  bsm := by omega
  len _ := rfl
  one x v hv := by simp at hv; rcases hv with rfl | rfl | rfl <;> rfl
theorem rq_at {w : World} {a : Option Addr} {n c : Nat} {rs : List Rq} (h : rqE.Rd w (.slice a n c) rs) (i : Nat) (r : Rq) (hp : rs[i]? = some r) : ∃ b off, a = some ⟨b, off, none⟩ ∧ w.cell? ⟨b, off + i * 3, none⟩ = some (.int .i64 r.id) ∧ w.cell? ⟨b, off + i * 3 + 1, none⟩ = some (.int .i64 r.st) ∧ w.cell? ⟨b, off + i * 3 + 2, none⟩ = some (.int .i64 r.tt) := by
  obtain ⟨b, off, h1, h2⟩ := h.at i r hp
  exact ⟨b, off, h1, h2 0 (by decide), h2 1 (by decide), h2 2 (by decide)⟩
theorem rq_new (w : World) (r : Rq) : rqE.Rd (w.alloc (.cells #[.int .i64 r.id, .int .i64 r.st, .int .i64 r.tt] 57)) (.slice (some ⟨w.heap.size, 0, none⟩) 1 1) [r] := (El.Own.new rqE w w.heap.size (Nat.le_refl _) #[.int .i64 r.id, .int .i64 r.st, .int .i64 r.tt] [r] rfl (by simp) _ _ _ rfl rfl rfl).rd
set_option maxRecDepth 100000 in
set_option maxHeartbeats 2000000 in
theorem same_any (a b : Option Addr) (c d n n' : Nat) (xs ys : List Rq) (w : World) (hn : xs.length = n) (hn' : ys.length = n') (hv : rqE.Rd w (.slice a n c) xs) (hu : rqE.Rd w (.slice b n' d) ys) (hl : n ≤ 100000) :
    Calls Tryz.prog 74 #[.slice a n c, .slice b n' d] w fun e w' => e = .returned (.bool (decide (xs = ys))) ∧ ∃ q, w' = w.drewN q := by
  have no1 : Hid (n ≠ n' → decide (xs = ys) = false) := hide (fun h => decide_eq_false (fun e => h (by rw [← hn, ← hn', e])))
  have no2 : Hid (∀ (k : Nat) (p q : Rq), xs[k]? = some p → ys[k]? = some q → p ≠ q → decide (xs = ys) = false) := hide (fun k p q h1 h2 h3 => decide_eq_false (fun e => h3 (by rw [e, h2] at h1; exact (Option.some.inj h1).symm)))
  have yes : Hid (n = n' → xs.take n = ys.take n → decide (xs = ys) = true) := hide (fun h1 h3 => decide_eq_true (by rwa [List.take_of_length_le (by omega), List.take_of_length_le (by omega)] at h3))
  generalize decide (xs = ys) = res at *
  by_cases hnn' : n ≠ n'
  · have e1 := no1.out hnn'
    subst e1
    have q1 : ((n : Int) != (n' : Int)) = true := bne_iff_ne.2 (by omega)
    clear no1 no2 yes hv hu hn hn' hnn'
    go_enter Tryz.func74, Tryz.ntmps74
    go_wp2_with fail
    go_ret
    exact ⟨rfl, 0, rfl⟩
  have hnn : n = n' := Decidable.not_not.1 hnn'
  clear hnn'
  subst hnn
  have q1 : ((n : Int) != (n : Int)) = false := bne_self_eq_false _
  have Hn := hide hn
  have Hn' := hide hn'
  have Hv := hide hv
  have Hu := hide hu
  have i0 : (n : Int) ≤ 100000 := by omega
  clear hn hn' hv hu hl no1
  go_enter Tryz.func74, Tryz.ntmps74
  go_wp2_with fail
  go_loopw [13] (fun v13 wr => ∃ k q : Nat, k ≤ n ∧ v13 = .int .i64 k ∧ wr = w.drewN q ∧ Hid (xs.take k = ys.take k)) (fun v13 _ => n - (intOf v13).toNat)
  case atStart => exact ⟨0, 0, by omega, rfl, rfl, hide (by simp)⟩
  case round =>
    obtain ⟨k, q, hk, rfl, rfl, HX⟩ := hrel
    by_cases hlt : k < n
    · obtain ⟨p, hp⟩ : ∃ p, xs[k]? = some p := ⟨_, List.getElem?_eq_getElem (by rw [Hn.out]; exact hlt)⟩
      obtain ⟨p', hp'⟩ : ∃ p, ys[k]? = some p := ⟨_, List.getElem?_eq_getElem (by rw [Hn'.out]; exact hlt)⟩
      obtain ⟨b1, off1, rfl, c0, c1, c2⟩ := rq_at Hv.out k p hp
      obtain ⟨b2, off2, rfl, c3, c4, c5⟩ := rq_at Hu.out k p' hp'
      have j0 : (0 : Int) ≤ (k : Int) := by omega
      have j1 : (k : Int) < (n : Int) := by omega
      have Hp := hide hp
      have Hp' := hide hp'
      clear hp hp'
      by_cases he : p = p'
      · have heq := fun W => rq_equal W p p'
        rw [decide_eq_true he] at heq
        have HX1 : Hid (xs.take (k + 1) = ys.take (k + 1)) := hide (by rw [List.take_add_one, List.take_add_one, HX.out, Hp.out, Hp'.out, he])
        clear he
        go_upto_region 6 with fail
        go_quiet (fail)
        go_wp2_with fail
        go_roundw
        case rel => exact ⟨k + 1, _, by omega, by go_num, rfl, HX1⟩
        case measure => simp [intOf]; omega
      · have heq := fun W => rq_equal W p p'
        rw [decide_eq_false he] at heq
        have e1 := no2.out k p p' Hp.out Hp'.out he
        subst e1
        clear he
        go_upto_region 6 with fail
        go_quiet (fail)
        go_wp2_with fail
        go_ret
        exact ⟨rfl, _, rfl⟩
    · obtain rfl : k = n := by omega
      have j1 : ¬ (k : Int) < (k : Int) := by omega
      have e1 := yes.out (by first | rfl | trivial) HX.out
      subst e1
      go_wp2_with fail
      go_ret
      exact ⟨rfl, _, rfl⟩
set_option maxRecDepth 100000 in
set_option maxHeartbeats 2000000 in
theorem bopen_any {w : World} {B g : Nat} {H : Hb} {S : Bk} (h : (It.book B g H S).P w) : Calls Tryz.prog 99 #[.pointer (some ⟨g, 0, none⟩)] w fun e w' => ∃ a' c', e = .returned (.slice a' (ops S.all).length c') ∧ rqE.Own w' w.heap.size (.slice a' (ops S.all).length c') (ops S.all) ∧ Below w.heap.size w w' := by
  obtain ⟨w0, rfl⟩ : ∃ w0, w0 = w := ⟨_, rfl⟩
  have hlie := bk_lie h
  have hfew := hlie.1.few
  obtain ⟨a, c, ev⟩ := (bk_row h).rd.form
  obtain ⟨c0, c1, c2, _⟩ := bk_cells h
  rw [ev, List.length_map] at c1
  have hops := hlie.ops
  have HE : Hid (∀ (k : Nat) (wr : World), k < (opT H.T).length → Below w0.heap.size w0 wr → ∃ (b off g' : Nat) (e : En), a = some ⟨b, off, none⟩ ∧ wr.cell? ⟨b, off + k, none⟩ = some (.pointer (some ⟨g', 0, none⟩)) ∧ wr.cell? ⟨g', 0, none⟩ = some (.int .i64 e.r.id) ∧ wr.cell? ⟨g', 1, none⟩ = some (.int .i64 e.r.st) ∧ wr.cell? ⟨g', 2, none⟩ = some (.int .i64 e.r.tt) ∧ (ops S.all)[k]? = some e.r) := hide (fun k wr hk hb => by
    have hw := (It.book B g H S).kept h hb
    have hr := (bk_row hw).rd
    rw [ev] at hr
    have hp : (opT H.T)[k]? = some (opT H.T)[k] := List.getElem?_eq_getElem hk
    obtain ⟨b, off, q1, q2⟩ := ptr_at hr k (opT H.T)[k].1 (by rw [List.getElem?_map, hp]; rfl)
    obtain ⟨d0, d1, d2, _⟩ := bk_ent hw (p := (opT H.T)[k]) (List.mem_filter.1 (List.getElem_mem hk)).1
    exact ⟨b, off, (opT H.T)[k].1, (opT H.T)[k].2, q1, q2, d0, d1, d2, by rw [hops, List.getElem?_map, hp]; rfl⟩)
  rw [← List.length_map (f := fun p : Nat × En => p.2.r), ← hops] at c1 HE
  generalize ops S.all = rs at *
  obtain ⟨n, hn⟩ : ∃ n, rs.length = n := ⟨_, rfl⟩
  rw [hn] at c1 HE hfew ⊢
  have Hn := hide hn
  have i0 : (n : Int) ≤ 30 := by omega
  have Hf := hide hfew
  clear h hlie hfew ev c0 c2 hops hn
  go_enter Tryz.func99, Tryz.ntmps99
  go_wp2_with fail
  go_loopw [3, 11] (fun v3 v11 wr => ∃ (k : Nat) (v : Value), k ≤ n ∧ v = v3 ∧ v11 = .int .i64 k ∧ Hid (rqE.Own wr w0.heap.size v (rs.take k)) ∧ Hid (Below w0.heap.size w0 wr)) (fun _ v11 _ => n - (intOf v11).toNat)
  case atStart => exact ⟨0, _, by omega, rfl, rfl, hide (El.Own.nil _ _ _), hide (Below.refl _ _)⟩
  case round =>
    obtain ⟨k, v, hk, hv, rfl, HO, HB⟩ := hrel
    subst hv
    by_cases hlt : k < n
    · obtain ⟨b, off, g', e, rfl, q0, d0, d1, d2, hr⟩ := HE.out k wr hlt HB.out
      obtain ⟨⟨i, s, t⟩, en⟩ := e
      simp only at d0 d1 d2 hr
      have j0 : (0 : Int) ≤ (k : Int) := by omega
      have j1 : (k : Int) < (n : Int) := by omega
      have HR := hide (rq_new wr ⟨i, s, t⟩)
      have HB1 := hide (HB.out.alloc HB.out.size (.cells #[.int .i64 i, .int .i64 s, .int .i64 t] 57))
      have HO1 : Hid (rqE.Own (wr.alloc (.cells #[.int .i64 i, .int .i64 s, .int .i64 t] 57)) w0.heap.size v (rs.take k)) := hide (HO.out.keep (below_new wr _))
      have HN : Hid ((rs.take k).length + [(⟨i, s, t⟩ : Rq)].length ≤ 1000000) := hide (by have := Hf.out; simp; omega)
      have HT : Hid (rs.take k ++ [⟨i, s, t⟩] = rs.take (k + 1)) := hide (by rw [List.take_add_one, hr]; rfl)
      clear hr HO
      go_wp2_with (at_builtin; refine rqE.wp (w0 := w0) HB1.out (by rfl) _ _ rfl _ _ rfl rfl _ _ HO1.out HR.out HN.out ?_; intro v1 w2 ho2 _ _ hb2; rw [HT.out] at ho2; have Ho := hide ho2; have HB2 := hide hb2; clear ho2 hb2)
      go_roundw
      case rel => exact ⟨k + 1, _, by omega, rfl, by go_num, Ho, HB2⟩
      case measure => simp [intOf]; omega
    · obtain rfl : k = n := by omega
      have j1 : ¬ (k : Int) < (k : Int) := by omega
      have ho := HO.out
      rw [List.take_of_length_le (by rw [Hn.out]; omega)] at ho
      obtain ⟨a', c', e⟩ := ho.rd.form
      rw [Hn.out] at e
      subst e
      have Ho := hide ho
      clear ho HO
      go_wp2_with fail
      go_ret
      exact ⟨_, _, rfl, Ho.out, HB.out⟩
section
variable {w0 w : World} {g : Nat} {H : Hb} {S S' : Bk} {l : List It}
theorem addS {y : Bool} {e : Int} (r : Rq) (h : Its w0 (.book w0.heap.size g H S :: l) w) (hiB : I64 r.id) (hn : S.all.length ≤ 10000) (h1 : S.adY r = y ∧ S.adC r = e) (h2 : S.ad r = S') : Calls Tryz.prog 80 #[.pointer (some ⟨g, 0, none⟩), .agg #[.int .i64 r.id, .int .i64 r.st, .int .i64 r.tt]] w fun q w' => q = .returned (.tuple #[.bool y, .int .i64 e]) ∧ ∃ H', Its w0 (.book w0.heap.size g H' S' :: l) w' := by
  have := add_any h r hiB hn
  rwa [h1.1, h1.2, h2] at this
theorem cancelS {y : Bool} {e : Int} {x : Int} (h : Its w0 (.book w0.heap.size g H S :: l) w) (hiB : I64 x) (h1 : S.caY x = y ∧ S.caC x = e) (h2 : S.ca x = S') : Calls Tryz.prog 87 #[.pointer (some ⟨g, 0, none⟩), .int .i64 x] w fun q w' => q = .returned (.tuple #[.bool y, .int .i64 e]) ∧ ∃ H', Its w0 (.book w0.heap.size g H' S' :: l) w' := by
  have := cancel_any h hiB
  rwa [h1.1, h1.2, h2] at this
theorem serveS {e : Int} {x : Int} (h : Its w0 (.book w0.heap.size g H S :: l) w) (hiB : I64 x) (hd : S.done.length ≤ 10000) (h1 : S.seC x = e) (h2 : S.se x = S') : Calls Tryz.prog 171 #[.pointer (some ⟨g, 0, none⟩), .int .i64 x] w fun q w' => q = .returned (.int .i64 e) ∧ ∃ H', Its w0 (.book w0.heap.size g H' S' :: l) w' := by
  have := serve_any h hiB hd
  rwa [h1, h2] at this
end
end Go.Proofs.YtocmngpoemfpkaaGreatDoor

namespace Go.Proofs.YtocmngpoemfpkaaGreatDoor
open Go.RowKit
set_option linter.unusedVariables false
set_option maxRecDepth 100000 in
set_option maxHeartbeats 4000000 in
theorem waysTo_any (a a' aM : Option Addr) (c c' cM n m k0 t : Nat) (ns : List Nd) (es : List Ed) (ms : List Int) (w : World) (hL : Ly w a a' c c' n m ns es) (hM : Mk w aM cM k0 ms) (hs : t < n) :
    Calls Tryz.prog 230 #[.agg #[.slice a n c, .slice a' m c'], .slice aM k0 cM, .int .i64 (t : Int)] w fun e w' => (∃ g l, e = .returned (.agg #[.slice a n c, .slice a' m c', .slice aM k0 cM, .int .i64 (t : Int), .slice (some ⟨g, 0, none⟩) n n]) ∧ intE.Own w' w.heap.size (.slice (some ⟨g, 0, none⟩) n n) l ∧ Far (Eg es (clo m ms) 1) (Tk ns) t n l) ∧ Below w.heap.size w w' := by
  obtain ⟨W0, hW0⟩ : ∃ W0, (w.alloc (.cells #[.slice a n c, .slice a' m c'] 25)).alloc (.cells #[.slice none 0 0, .slice none 0 0, .slice none 0 0, .int .i64 0, .slice none 0 0] 296) = W0 := ⟨_, rfl⟩
  have bA : Below w.heap.size w W0 := by rw [← hW0]; exact ((Below.refl _ _).alloc (Nat.le_refl _) _).alloc (by simp) _
  have hbox : W0.heap[w.heap.size]? = some (.cells #[.slice a n c, .slice a' m c'] 25) := by rw [← hW0, Below.heap_alloc _ _ _ (by simp)]; exact heap_new _ _
  have hz : W0.heap[w.heap.size + 1]? = some (.cells #[.slice none 0 0, .slice none 0 0, .slice none 0 0, .int .i64 0, .slice none 0 0] 296) := by
    rw [← hW0]
    have := heap_new (w.alloc (.cells #[.slice a n c, .slice a' m c'] 25)) (.cells #[.slice none 0 0, .slice none 0 0, .slice none 0 0, .int .i64 0, .slice none 0 0] 296)
    rwa [show (w.alloc (.cells #[.slice a n c, .slice a' m c'] 25)).heap.size = w.heap.size + 1 by simp] at this
  have HBOX := hide hbox
  have HZ := hide hz
  have HA := hide bA
  have HW0 := hide hW0
  have d0 := (cells_at hbox 0).1
  have d1 := (cells_at hbox 1).1
  simp at d0 d1
  have K27 : Hid (Calls Tryz.prog 248 #[.agg #[.slice a n c, .slice a' m c'], .slice aM k0 cM, .int .i64 (t : Int)] W0 fun e w' => (∃ g l, e = .returned (.tuple #[.slice (some ⟨g, 0, none⟩) n n, .int .i64 0]) ∧ intE.Own w' W0.heap.size (.slice (some ⟨g, 0, none⟩) n n) l ∧ Far (Eg es (clo m ms) 1) (Tk ns) t n l) ∧ Below W0.heap.size W0 w') := hide (to_ok a a' aM c c' cM n m k0 t ns es ms W0 (hL.keep bA) (hM.keep bA) hs)
  clear hL hM hs hW0 hbox bA hz
  go_enter Tryz.func230, Tryz.ntmps230
  go_upto_region 1 with fail
  rw [HW0.out]
  clear HW0
  go_upto_region 2 with (go_at_call 248; refine (K27.out).mono ?_; rintro e W1 ⟨⟨g, l, rfl, ho, hf⟩, hb⟩; have Ho := hide ho; have Hf := hide hf; have Hb := hide hb; obtain ⟨x0, x1⟩ := layc HBOX.out hb; have HZ1 : Hid (W1.heap[w.heap.size + 1]? = some (.cells #[.slice none 0 0, .slice none 0 0, .slice none 0 0, .int .i64 0, .slice none 0 0] 296)) := hide ((hb.block _ (heap_lt HZ.out)).trans HZ.out); clear ho hf hb)
  obtain ⟨y0, f0⟩ := cells_at HZ1.out 0
  obtain ⟨y1, f1⟩ := cells_at HZ1.out 1
  obtain ⟨y2, f2⟩ := cells_at HZ1.out 2
  obtain ⟨y3, f3⟩ := cells_at HZ1.out 3
  obtain ⟨y4, f4⟩ := cells_at HZ1.out 4
  have HN : Hid (¬ g = w.heap.size + 1) := hide (fun e => by
    have h1 := Ho.out.ge g rfl
    have h2 := heap_lt HZ.out
    omega)
  have HF : Hid (∀ v0 v1 v2 v3 v4, intE.Own (((((W1.setCell ⟨w.heap.size + 1, 0, none⟩ v0).setCell ⟨w.heap.size + 1, 1, none⟩ v1).setCell ⟨w.heap.size + 1, 2, none⟩ v2).setCell ⟨w.heap.size + 1, 3, none⟩ v3).setCell ⟨w.heap.size + 1, 4, none⟩ v4) w.heap.size (.slice (some ⟨g, 0, none⟩) n n) l ∧
      Below w.heap.size w (((((W1.setCell ⟨w.heap.size + 1, 0, none⟩ v0).setCell ⟨w.heap.size + 1, 1, none⟩ v1).setCell ⟨w.heap.size + 1, 2, none⟩ v2).setCell ⟨w.heap.size + 1, 3, none⟩ v3).setCell ⟨w.heap.size + 1, 4, none⟩ v4)) := hide (fun v0 v1 v2 v3 v4 => by
    have hne : (Value.slice (some ⟨g, 0, none⟩) n n).ownBlock ≠ some (w.heap.size + 1) := fun e => HN.out (Option.some.inj e)
    refine ⟨(own_set_other (own_set_other (own_set_other (own_set_other (own_set_other Ho.out hne) hne) hne) hne) hne).mono HA.out.size, ?_⟩
    have hb := HA.out.trans (Hb.out.mono HA.out.size)
    exact ((((hb.setCell (p := ⟨w.heap.size + 1, 0, none⟩) (by simp) _).setCell (p := ⟨w.heap.size + 1, 1, none⟩) (by simp) _).setCell (p := ⟨w.heap.size + 1, 2, none⟩) (by simp) _).setCell (p := ⟨w.heap.size + 1, 3, none⟩) (by simp) _).setCell (p := ⟨w.heap.size + 1, 4, none⟩) (by simp) _)
  simp at y0 y1 y2 y3 y4
  clear HZ HZ1 HBOX
  go_wp2_with fail
  refine bodyPost_ret (v := .agg #[.slice a n c, .slice a' m c', .slice aM k0 cM, .int .i64 (t : Int), .slice (some ⟨g, 0, none⟩) n n]) (by simp [results, Tryz.results230, go_sem, y0, y1, y2, y3, y4]) rfl ⟨⟨g, l, rfl, (HF.out _ _ _ _ _).1, Hf.out⟩, (HF.out _ _ _ _ _).2⟩
set_option maxRecDepth 100000 in
set_option maxHeartbeats 2000000 in
theorem end_any (a a' aM : Option Addr) (c c' cM n m k0 : Nat) (t : Int) (vF : Value) (es : List Ed) (i : Nat) (x y : Int) (w : World) (hu : edE.Rd w (.slice a' m c') es) (hm : es.length = m) (hl : m ≤ 100000) (hi : es[i]? = some (x, y)) :
    Calls Tryz.prog 251 #[.agg #[.slice a n c, .slice a' m c', .slice aM k0 cM, .int .i64 t, vF], .int .i64 ((i + 1 : Nat) : Int)] w fun e w' => e = .returned (.int .i64 y) ∧ w' = w.alloc (.cells #[.slice a n c, .slice a' m c', .slice aM k0 cM, .int .i64 t, vF] 296) := by
  have hb : Below w.heap.size w (w.alloc (.cells #[.slice a n c, .slice a' m c', .slice aM k0 cM, .int .i64 t, vF] 296)) := (Below.refl _ _).alloc (Nat.le_refl _) _
  have hlt : i < m := by
    rcases Nat.lt_or_ge i m with h' | h'
    · exact h'
    · rw [List.getElem?_eq_none (by omega)] at hi; cases hi
  obtain ⟨b, off, rfl, c0, c1⟩ := ed_at (hu.keep hb) i (x, y) hi
  simp only at c0 c1
  have j0 : (0 : Int) ≤ (i : Int) := by omega
  have j1 : (i : Int) < (m : Int) := by omega
  have j2 : (m : Int) ≤ 100000 := by omega
  rw [show ((i + 1 : Nat) : Int) = (i : Int) + 1 by omega]
  clear hu hm hl hi hb hlt
  go_enter Tryz.func251, Tryz.ntmps251
  go_wp2_with fail
  go_ret
  trivial
end Go.Proofs.YtocmngpoemfpkaaGreatDoor

namespace Go.Proofs.YtocmngpoemfpkaaGreatDoor
open Go.RowKit
set_option linter.unusedVariables false
structure Wy (w : World) (a a' aM : Option Addr) (c c' cM n m k0 t g : Nat) (ns : List Nd) (es : List Ed) (ms l : List Int) : Prop where
  ly : Ly w a a' c c' n m ns es
  msk : Mk w aM cM k0 ms
  far : intE.Rd w (.slice (some ⟨g, 0, none⟩) n n) l
  gr : Gr ns es ms l t n
theorem Wy.keep {w w' : World} {a a' aM : Option Addr} {c c' cM n m k0 t g : Nat} {ns : List Nd} {es : List Ed} {ms l : List Int} (h : Wy w a a' aM c c' cM n m k0 t g ns es ms l) (hb : Below w.heap.size w w') : Wy w' a a' aM c c' cM n m k0 t g ns es ms l :=
  ⟨h.ly.keep hb, h.msk.keep hb, h.far.keep hb, h.gr⟩
theorem Wy.at {w : World} {a a' aM : Option Addr} {c c' cM n m k0 t g : Nat} {ns : List Nd} {es : List Ed} {ms l : List Int} (h : Wy w a a' aM c c' cM n m k0 t g ns es ms l) (y : Nat) (hy : y < n) : w.cell? ⟨g, y, none⟩ = some (.int .i64 (va l y)) := by
  obtain ⟨b, off, h1, h2⟩ := int_at h.far y _ (va_at l y (by rw [h.gr.far.1]; exact hy))
  simp only [Option.some.injEq, Addr.mk.injEq] at h1
  obtain ⟨rfl, rfl, _⟩ := h1
  simpa using h2
theorem Wy.kind {w : World} {a a' aM : Option Addr} {c c' cM n m k0 t g : Nat} {ns : List Nd} {es : List Ed} {ms l : List Int} (h : Wy w a a' aM c c' cM n m k0 t g ns es ms l) (y : Nat) (hy : y < n) : ∃ b off, a = some ⟨b, off, none⟩ ∧ w.cell? ⟨b, off + y * 3 + 1, none⟩ = some (.int .i64 (kindAt ns (y : Int))) := by
  have hl : y < ns.length := by rw [h.ly.hn]; exact hy
  obtain ⟨b, off, h1, _, h2, _⟩ := nd_at h.ly.hv y _ (List.getElem?_eq_getElem hl)
  exact ⟨b, off, h1, by rw [kind_at (List.getElem?_eq_getElem hl)]; exact h2⟩
theorem box5W {g : Nat} {W0 W : World} {v0 v1 v2 v3 v4 : Value} (hbox : W0.heap[g]? = some (.cells #[v0, v1, v2, v3, v4] 296)) (hb : Below W0.heap.size W0 W) :
    W.cell? ⟨g, 0, none⟩ = some v0 ∧ W.cell? ⟨g, 1, none⟩ = some v1 ∧ W.cell? ⟨g, 2, none⟩ = some v2 ∧ W.cell? ⟨g, 3, none⟩ = some v3 ∧ W.cell? ⟨g, 4, none⟩ = some v4 := by
  rw [hb.cell (p := ⟨g, 0, none⟩) (heap_lt hbox), hb.cell (p := ⟨g, 1, none⟩) (heap_lt hbox), hb.cell (p := ⟨g, 2, none⟩) (heap_lt hbox), hb.cell (p := ⟨g, 3, none⟩) (heap_lt hbox), hb.cell (p := ⟨g, 4, none⟩) (heap_lt hbox)]
  exact ⟨(cells_at hbox 0).1, (cells_at hbox 1).1, (cells_at hbox 2).1, (cells_at hbox 3).1, (cells_at hbox 4).1⟩
set_option maxRecDepth 100000 in
set_option maxHeartbeats 4000000 in
theorem comesTo_any (a a' aM : Option Addr) (c c' cM n m k0 t g y : Nat) (ns : List Nd) (es : List Ed) (ms l : List Int) (left : Int) (w : World) (hW : Wy w a a' aM c c' cM n m k0 t g ns es ms l) (hy : y < n) :
    Calls Tryz.prog 259 #[.agg #[.slice a n c, .slice a' m c', .slice aM k0 cM, .int .i64 (t : Int), .slice (some ⟨g, 0, none⟩) n n], .int .i64 (y : Int), .int .i64 left] w fun e w' => e = .returned (.bool (decide (va l y = left) && (decide (y = t) || decide (kindAt ns (y : Int) = 1)))) ∧ Below w.heap.size w w' := by
  obtain ⟨W0, hW0⟩ : ∃ W0, w.alloc (.cells #[.slice a n c, .slice a' m c', .slice aM k0 cM, .int .i64 (t : Int), .slice (some ⟨g, 0, none⟩) n n] 296) = W0 := ⟨_, rfl⟩
  have bA : Below w.heap.size w W0 := by rw [← hW0]; exact (Below.refl _ _).alloc (Nat.le_refl _) _
  have hbox : W0.heap[w.heap.size]? = some (.cells #[.slice a n c, .slice a' m c', .slice aM k0 cM, .int .i64 (t : Int), .slice (some ⟨g, 0, none⟩) n n] 296) := by rw [← hW0]; exact heap_new _ _
  have HBOX := hide hbox
  have HA := hide bA
  have HW0 := hide hW0
  obtain ⟨d0, d1, d2, d3, d4⟩ := box5W hbox (Below.refl _ _)
  have b1 : Below W0.heap.size W0 (W0.alloc (.cells #[.int .i64 (y : Int)] 3)) := (Below.refl _ _).alloc (Nat.le_refl _) _
  have Hb1 := hide b1
  have K28 : Hid (∀ W, Below W0.heap.size W0 W → intE.Rd W (.slice (some ⟨W0.heap.size, 0, none⟩) 1 1) [(y : Int)] → Calls Tryz.prog 229 #[.agg #[.slice a n c, .slice a' m c'], .slice (some ⟨W0.heap.size, 0, none⟩) 1 1] W fun e w' => e = .returned (.bool true) ∧ Below W.heap.size W w') := hide (fun W h hr => by
    have := places_any a a' (some ⟨W0.heap.size, 0, none⟩) n c m c' 1 1 [(y : Int)] W rfl hr (by omega)
    rwa [place1, decide_eq_true ⟨by omega, by omega⟩] at this)
  have HWy : Hid (∀ W, Below W0.heap.size W0 W → Wy W a a' aM c c' cM n m k0 t g ns es ms l) := hide (fun W h => hW.keep (bA.trans (h.mono bA.size)))
  have Hy := hide hy
  have j0 : (0 : Int) ≤ (y : Int) := by omega
  have j1 : (y : Int) < (n : Int) := by omega
  have Hyt : Hid (decide (y = t) = ((y : Int) == (t : Int))) := hide (by
    by_cases h : y = t
    · subst h; simp
    · rw [decide_eq_false h, beq_eq_false_iff_ne.2 (by omega)])
  have Hyk : Hid (decide (kindAt ns (y : Int) = 1) = (kindAt ns (y : Int) == 1)) := hide (by
    by_cases h : kindAt ns (y : Int) = 1
    · rw [h]; rfl
    · rw [decide_eq_false h, beq_eq_false_iff_ne.2 h])
  obtain ⟨b, off, rfl, _⟩ := hW.kind y hy
  obtain ⟨res, hres⟩ : ∃ res, (decide (va l y = left) && (decide (y = t) || decide (kindAt ns (y : Int) = 1))) = res := ⟨_, rfl⟩
  rw [hres]
  have HRes := hide hres
  clear hW hy hW0 hbox bA b1 hres
  go_enter Tryz.func259, Tryz.ntmps259
  go_upto_region 1 with fail
  rw [HW0.out]
  clear HW0
  by_cases h1 : va l y = left
  · have HRes : Hid ((((y : Int) == (t : Int)) || (kindAt ns (y : Int) == 1)) = res) := hide (by rw [← Hyt.out, ← Hyk.out, ← HRes.out, decide_eq_true h1, Bool.true_and])
    clear Hyt Hyk
    go_upto_region 3 with (go_at_call 229; refine (K28.out _ Hb1.out (int_new _ _ _ rfl)).mono ?_; rintro e W2 ⟨rfl, hb2⟩; have Hb2 : Hid (Below W0.heap.size W0 W2) := hide (Hb1.out.trans (hb2.mono Hb1.out.size)); obtain ⟨x0, x1, x2, x3, x4⟩ := box5W HBOX.out Hb2.out; have x5 := (HWy.out W2 Hb2.out).at y Hy.out; obtain ⟨b', off', hbb, x6⟩ := (HWy.out W2 Hb2.out).kind y Hy.out; simp only [Option.some.injEq, Addr.mk.injEq] at hbb; obtain ⟨rfl, rfl, _⟩ := hbb; rw [h1] at x5; have q1 : (left != left) = false := bne_self_eq_false _; clear hb2 d0 d1 d2 d3 d4)
    clear h1 K28
    generalize kindAt ns (y : Int) = kd at x6 HRes
    cases hq : ((y : Int) == (t : Int))
    · rw [hq, Bool.false_or] at HRes
      have e1 := HRes.out
      subst e1
      go_wp2_with fail
      go_ret
      exact ⟨rfl, HA.out.trans (Hb2.out.mono HA.out.size)⟩
    · rw [hq, Bool.true_or] at HRes
      have e1 := HRes.out
      subst e1
      go_wp2_with fail
      go_ret
      exact ⟨rfl, HA.out.trans (Hb2.out.mono HA.out.size)⟩
  · have e1 : res = false := by rw [← HRes.out, decide_eq_false h1, Bool.false_and]
    subst e1
    have q1 : (va l y != left) = true := bne_iff_ne.2 h1
    clear HRes Hyt Hyk h1
    go_wp2_with (go_at_call 229; refine (K28.out _ Hb1.out (int_new _ _ _ rfl)).mono ?_; rintro e W2 ⟨rfl, hb2⟩; have Hb2 : Hid (Below W0.heap.size W0 W2) := hide (Hb1.out.trans (hb2.mono Hb1.out.size)); obtain ⟨x0, x1, x2, x3, x4⟩ := box5W HBOX.out Hb2.out; have x5 := (HWy.out W2 Hb2.out).at y Hy.out; clear hb2 d0 d1 d2 d3 d4)
    go_ret
    exact ⟨rfl, HA.out.trans (Hb2.out.mono HA.out.size)⟩
end Go.Proofs.YtocmngpoemfpkaaGreatDoor

namespace Go.Proofs.YtocmngpoemfpkaaGreatDoor
open Go.RowKit
set_option linter.unusedVariables false
def okE (ns : List Nd) (es : List Ed) (ms l : List Int) (t : Nat) (u left : Int) (d : Int) : Bool := okD ns es ms l t u left (d - 1).toNat
theorem find_dvs (ns : List Nd) (es : List Ed) (ms l : List Int) (t : Nat) (u left : Int) : ∀ k, (dvs es (fun e => e.1 = u) k).find? (okE ns es ms l t u left) = ((List.range k).find? (okD ns es ms l t u left)).map (fun i => ((i + 1 : Nat) : Int))
  | 0 => rfl
  | k + 1 => by
    show (dvs es (fun e => e.1 = u) k ++ _).find? _ = _
    rw [List.range_succ, List.find?_append, List.find?_append, find_dvs ns es ms l t u left k, Option.map_or]
    congr 1
    cases h : es[k]? with
    | none =>
      have : okD ns es ms l t u left k = false := by unfold okD; rw [h]
      simp [this]
    | some e =>
      by_cases he : e.1 = u
      · simp only [he, if_true]
        have e1 : okE ns es ms l t u left ((k + 1 : Nat) : Int) = okD ns es ms l t u left k := by unfold okE; rw [show ((((k + 1 : Nat) : Int) - 1).toNat) = k by omega]
        rw [List.find?_cons, List.find?_cons, e1]
        cases okD ns es ms l t u left k <;> rfl
      · have : okD ns es ms l t u left k = false := by
          unfold okD; rw [h]; simp [he]
        simp [this, he]
theorem stp_outs {ns : List Nd} {es : List Ed} {ms l : List Int} {t : Nat} {u left : Int} (h : 0 ≤ left) : stpW ns es ms l t u left = ((outs es u).find? (okE ns es ms l t u left)).getD 0 := by
  unfold stpW outs
  rw [if_neg (by omega), find_dvs]
  cases (List.range es.length).find? (okD ns es ms l t u left) <;> rfl
theorem find_here {p : Int → Bool} : ∀ {xs : List Int} {k : Nat} {d : Int}, xs[k]? = some d → (∀ j, j < k → ∀ x, xs[j]? = some x → p x = false) → p d = true → xs.find? p = some d
  | [], k, d, h, _, _ => by simp at h
  | x :: xs, 0, d, h, _, h2 => by simp at h; subst h; rw [List.find?_cons, h2]
  | x :: xs, k + 1, d, h, h1, h2 => by
    rw [List.find?_cons, h1 0 (by omega) x rfl]
    exact find_here (by simpa using h) (fun j hj y hy => h1 (j + 1) (by omega) y (by simpa using hy)) h2
theorem find_no {p : Int → Bool} {xs : List Int} (h : ∀ j, j < xs.length → ∀ x, xs[j]? = some x → p x = false) : xs.find? p = none := by
  rw [List.find?_eq_none]
  intro x hx
  obtain ⟨j, hj⟩ := List.getElem?_of_mem hx
  rw [h j (by
    rcases Nat.lt_or_ge j xs.length with g | g
    · exact g
    · rw [List.getElem?_eq_none g] at hj; cases hj) x hj]
  simp
set_option maxRecDepth 100000 in
set_option maxHeartbeats 4000000 in
theorem w_step_any (a a' aM : Option Addr) (c c' cM n m k0 t g u : Nat) (ns : List Nd) (es : List Ed) (ms l : List Int) (left : Int) (w : World) (hW : Wy w a a' aM c c' cM n m k0 t g ns es ms l) (hu : u < n) :
    Calls Tryz.prog 250 #[.agg #[.slice a n c, .slice a' m c', .slice aM k0 cM, .int .i64 (t : Int), .slice (some ⟨g, 0, none⟩) n n], .int .i64 (u : Int), .int .i64 left] w fun e w' => e = .returned (.int .i64 (stpW ns es ms l t (u : Int) left)) ∧ Below w.heap.size w w' := by
  obtain ⟨W0, hW0⟩ : ∃ W0, w.alloc (.cells #[.slice a n c, .slice a' m c', .slice aM k0 cM, .int .i64 (t : Int), .slice (some ⟨g, 0, none⟩) n n] 296) = W0 := ⟨_, rfl⟩
  have bA : Below w.heap.size w W0 := by rw [← hW0]; exact (Below.refl _ _).alloc (Nat.le_refl _) _
  have hbox : W0.heap[w.heap.size]? = some (.cells #[.slice a n c, .slice a' m c', .slice aM k0 cM, .int .i64 (t : Int), .slice (some ⟨g, 0, none⟩) n n] 296) := by rw [← hW0]; exact heap_new _ _
  have HBOX := hide hbox
  have HA := hide bA
  have HW0 := hide hW0
  obtain ⟨d0, d1, d2, d3, d4⟩ := box5W hbox (Below.refl _ _)
  have HWy : Hid (∀ W, Below W0.heap.size W0 W → Wy W a a' aM c c' cM n m k0 t g ns es ms l) := hide (fun W h => hW.keep (bA.trans (h.mono bA.size)))
  have Hlen := hide hW.ly.hm
  have Hm4 := hide hW.ly.m4
  have Hu := hide hu
  obtain ⟨res, hres⟩ : ∃ res, stpW ns es ms l t (u : Int) left = res := ⟨_, rfl⟩
  rw [hres]
  by_cases hl : left < 0
  · rw [stp_neg hl] at hres
    subst hres
    clear hW hu hbox bA hW0
    go_enter Tryz.func250, Tryz.ntmps250
    go_upto_region 1 with fail
    rw [HW0.out]
    clear HW0
    go_wp2_with fail
    go_ret
    exact ⟨rfl, HA.out⟩
  have Hyes : Hid (∀ (k : Nat) (d : Int), (outs es (u : Int))[k]? = some d → (∀ j, j < k → ∀ x, (outs es (u : Int))[j]? = some x → okE ns es ms l t (u : Int) left x = false) → okE ns es ms l t (u : Int) left d = true → res = d) := hide (fun k d h h1 h2 => by
    rw [← hres, stp_outs (by omega), find_here h h1 h2]; rfl)
  have Hno : Hid ((∀ j, j < (outs es (u : Int)).length → ∀ x, (outs es (u : Int))[j]? = some x → okE ns es ms l t (u : Int) left x = false) → res = 0) := hide (fun h => by
    rw [← hres, stp_outs (by omega), find_no h]; rfl)
  have Hdev : Hid (∀ (k : Nat) (d : Int), (outs es (u : Int))[k]? = some d → ∃ i y : Nat, d = ((i + 1 : Nat) : Int) ∧ es[i]? = some ((u : Int), (y : Int)) ∧ y < n ∧ okE ns es ms l t (u : Int) left d = (decide (d ∉ ms) && (decide (va l y = left) && (decide (y = t) || decide (kindAt ns (y : Int) = 1))))) := hide (fun k d h => by
    obtain ⟨i, e, h1, h2, h3, h4⟩ := (dvs_mem es (fun e => e.1 = (u : Int)) d es.length).1 (List.mem_of_getElem? h)
    obtain ⟨x, y⟩ := e
    simp only at h4
    subst h4
    have hb := inB_at hW.gr.inb h3
    obtain ⟨q, rfl⟩ := Int.eq_ofNat_of_zero_le hb.2.2.1
    refine ⟨i, q, h2, h3, by omega, ?_⟩
    subst h2
    unfold okE okD
    rw [show ((((i + 1 : Nat) : Int) - 1).toNat) = i by omega, h3]
    have e1 : decide ((q : Int) = (t : Int)) = decide (q = t) := by rw [decide_eq_decide]; omega
    simp only [decide_true, Bool.true_and, Int.toNat_natCast, e1])
  have HoL : Hid ((outs es (u : Int)).length ≤ es.length) := hide (dvs_len es _ _)
  have K41 := hide (out_any a a' c c' n m es (u : Int) W0 hW.ly.hm (hW.keep bA).ly.hu (by have := hW.ly.m4; omega) ⟨by omega, by omega⟩)
  have K42 : Hid (∀ W d, Below W0.heap.size W0 W → Calls Tryz.prog 165 #[.slice aM k0 cM, .int .i64 d] W fun e w' => e = .returned (.bool (decide (d ∈ ms))) ∧ w' = W) := hide (fun W d h => w_contains_any aM cM k0 ms d W hW.msk.hk (HWy.out W h).msk.hM hW.msk.k4)
  have K34 : Hid (∀ W (i y : Nat), Below W0.heap.size W0 W → es[i]? = some ((u : Int), (y : Int)) → Calls Tryz.prog 251 #[.agg #[.slice a n c, .slice a' m c', .slice aM k0 cM, .int .i64 (t : Int), .slice (some ⟨g, 0, none⟩) n n], .int .i64 ((i + 1 : Nat) : Int)] W fun e w' => e = .returned (.int .i64 (y : Int)) ∧ Below W.heap.size W w') := hide (fun W i y h hi => (end_any a a' aM c c' cM n m k0 (t : Int) (.slice (some ⟨g, 0, none⟩) n n) es i (u : Int) (y : Int) W (HWy.out W h).ly.hu hW.ly.hm (by have := hW.ly.m4; omega) hi).mono (by
    rintro e w' ⟨h1, rfl⟩
    exact ⟨h1, (Below.refl _ _).alloc (Nat.le_refl _) _⟩))
  have K43 : Hid (∀ W (y : Nat), Below W0.heap.size W0 W → y < n → Calls Tryz.prog 259 #[.agg #[.slice a n c, .slice a' m c', .slice aM k0 cM, .int .i64 (t : Int), .slice (some ⟨g, 0, none⟩) n n], .int .i64 (y : Int), .int .i64 left] W fun e w' => e = .returned (.bool (decide (va l y = left) && (decide (y = t) || decide (kindAt ns (y : Int) = 1)))) ∧ Below W.heap.size W w') := hide (fun W y h hy => comesTo_any a a' aM c c' cM n m k0 t g y ns es ms l left W (HWy.out W h) hy)
  obtain ⟨SS, hSS⟩ : ∃ SS : World → Prop, SS = fun W' => Below W0.heap.size W0 W' := ⟨_, rfl⟩
  have s9 : Hid (∀ W', SS W' → Below W0.heap.size W0 W') := hide (fun W' h => by rw [hSS] at h; exact h)
  have s8 : Hid (∀ W', Below W0.heap.size W0 W' → SS W') := hide (fun W' h => by rw [hSS]; exact h)
  have sb : Hid (∀ W', SS W' → W'.cell? ⟨w.heap.size, 0, none⟩ = some (.slice a n c) ∧ W'.cell? ⟨w.heap.size, 1, none⟩ = some (.slice a' m c') ∧ W'.cell? ⟨w.heap.size, 2, none⟩ = some (.slice aM k0 cM) ∧ W'.cell? ⟨w.heap.size, 3, none⟩ = some (.int .i64 (t : Int)) ∧ W'.cell? ⟨w.heap.size, 4, none⟩ = some (.slice (some ⟨g, 0, none⟩) n n)) := hide (fun W' h => box5W HBOX.out (s9.out W' h))
  clear hW hu hbox bA hW0 hres hSS
  generalize outs es (u : Int) = ds at *
  go_enter Tryz.func250, Tryz.ntmps250
  go_upto_region 1 with fail
  rw [HW0.out]
  clear HW0
  go_upto_region 4 with (go_at_call 258; refine (K41.out).mono ?_; rintro e W1 ⟨⟨vD, rfl, ho⟩, hb⟩; obtain ⟨aD, cD, rfl⟩ := ho.rd.form; have Ho := hide ho; have Hb := hide hb; clear ho hb)
  clear K41 d0 d1 d2 d3 d4
  obtain ⟨nD, hnD⟩ : ∃ nD, ds.length = nD := ⟨_, rfl⟩
  rw [hnD] at Ho HoL Hno
  rw [hnD]
  have i0 : (nD : Int) ≤ 1000 := by have h1 := HoL.out; have h2 := Hlen.out; have h3 := Hm4.out; omega
  have Hnd := hide hnD
  clear hnD
  have HD : Hid (∀ W, Below W1.heap.size W1 W → intE.Rd W (.slice aD nD cD) ds) := hide (fun W h => Ho.out.rd.keep h)
  go_loopw [16] (fun v16 wr => ∃ k : Nat, k ≤ nD ∧ v16 = .int .i64 k ∧ Hid (Below W1.heap.size W1 wr) ∧ Hid (∀ j, j < k → ∀ x, ds[j]? = some x → okE ns es ms l t (u : Int) left x = false)) (fun v16 _ => nD - (intOf v16).toNat)
  case atStart => exact ⟨0, by omega, rfl, hide (Below.refl _ _), hide (fun j hj => by omega)⟩
  case round =>
    obtain ⟨k, hk, rfl, HB, HX⟩ := hrel
    by_cases hlt : k < nD
    · obtain ⟨d, hd⟩ : ∃ d, ds[k]? = some d := ⟨_, List.getElem?_eq_getElem (by rw [Hnd.out]; exact hlt)⟩
      obtain ⟨b, off, rfl, c0⟩ := int_at (HD.out wr HB.out) k d hd
      obtain ⟨i, y, hdi, hi, hy, hok⟩ := Hdev.out k d hd
      have j0 : (0 : Int) ≤ (k : Int) := by omega
      have j1 : (k : Int) < (nD : Int) := by omega
      have HX1 : Hid (okE ns es ms l t (u : Int) left d = false → ∀ j, j < k + 1 → ∀ x, ds[j]? = some x → okE ns es ms l t (u : Int) left x = false) := hide (fun h j hj x hx => by
        rcases Nat.lt_or_ge j k with h' | h'
        · exact HX.out j h' x hx
        · obtain rfl : j = k := by omega
          rw [hd] at hx; obtain rfl := Option.some.inj hx; exact h)
      have Hye : Hid (okE ns es ms l t (u : Int) left d = true → res = d) := hide (fun h => Hyes.out k d hd HX.out h)
      have HB0 : Hid (Below W0.heap.size W0 wr) := hide (Hb.out.trans (HB.out.mono Hb.out.size))
      have Hi := hide hi
      have Hy := hide hy
      have Hok := hide hok
      have Hdi := hide hdi
      clear hd hi hy hok hdi
      by_cases hin : d ∈ ms
      · have tin : decide (d ∈ ms) = true := decide_eq_true hin
        have HX2 := hide (HX1.out (by rw [Hok.out, decide_eq_false (fun h => h hin), Bool.false_and]))
        have K42' : Hid (∀ W, Below W0.heap.size W0 W → Calls Tryz.prog 165 #[.slice aM k0 cM, .int .i64 d] W fun e w' => e = .returned (.bool true) ∧ Below W.heap.size W w') := hide (fun W h => (K42.out W d h).mono (by rintro e w' ⟨rfl, rfl⟩; rw [tin]; exact ⟨rfl, Below.refl _ _⟩))
        clear hin Hok tin
        go_upto_region 6 with fail
        refine wp_region_held_drew (S := SS) (by kernel_rfl) (s8.out _ (below_heap HB0.out rfl rfl rfl rfl)) (fun hS0 => ?_)
        refine wpAnyH_take (i := 0) (v := .pointer (some ⟨w.heap.size, 2, none⟩)) rfl (by kernel_rfl) (by kernel_rfl) (by kernel_rfl) (fun _ _ _ h => h) (Or.inl ⟨by rfl, fun W' hW => by go_simp⟩) hS0 ?_
        refine wpAnyH_take (i := 2) (v := .int .i64 d) rfl (by kernel_rfl) (by kernel_rfl) (by kernel_rfl) (fun _ _ _ h => h) (Or.inl ⟨by rfl, fun W' hW => by go_simp⟩) hS0 ?_
        refine wpAnyH_take (i := 1) (v := .slice aM k0 cM) rfl (by kernel_rfl) (by kernel_rfl) (by kernel_rfl) (fun _ _ _ h => h) (Or.inl ⟨by rfl, fun W' hW => by obtain ⟨z0, z1, z2, z3, z4⟩ := sb.out W' hW; go_simp⟩) hS0 ?_
        refine wpAnyH_ready (rs := [3]) (by kernel_rfl) (by simp) ?_
        refine AllReadyH.cons rfl (fun K hK => ?_) AllReadyH.nil
        go_simp
        refine (K42'.out _ (s9.out _ hS0)).mono ?_
        rintro e W3 ⟨rfl, hb3⟩
        refine hK.out _ _ (s8.out _ ((s9.out _ hS0).trans (hb3.mono (s9.out _ hS0).size))) (fun hS1 => ?_)
        clear hK K
        refine wpAnyH_ready (rs := [4]) (by kernel_rfl) (by simp) ?_
        refine AllReadyH.cons rfl (fun K hK => ?_) AllReadyH.nil
        go_simp
        refine hK.out _ _ hS1 (fun hS2 => ?_)
        clear hK K
        refine wpAnyH_ready (rs := [5]) (by kernel_rfl) (by simp) ?_
        refine AllReadyH.cons rfl (fun K hK => ?_) AllReadyH.nil
        go_simp
        refine hK.out _ _ hS2 (fun hS3 => ?_)
        clear hK K
        refine wpAnyH_take (i := 6) (v := undef) rfl (by kernel_rfl) (by kernel_rfl) (by kernel_rfl) (fun _ _ _ h => h) (Or.inr ⟨by kernel_rfl, rfl⟩) hS3 ?_
        refine wpAnyH_take (i := 7) (v := undef) rfl (by kernel_rfl) (by kernel_rfl) (by kernel_rfl) (fun _ _ _ h => h) (Or.inr ⟨by kernel_rfl, rfl⟩) hS3 ?_
        refine wpAnyH_take (i := 8) (v := undef) rfl (by kernel_rfl) (by kernel_rfl) (by kernel_rfl) (fun _ _ _ h => h) (Or.inr ⟨by kernel_rfl, rfl⟩) hS3 ?_
        refine wpAnyH_take (i := 9) (v := undef) rfl (by kernel_rfl) (by kernel_rfl) (by kernel_rfl) (fun _ _ _ h => h) (Or.inr ⟨by kernel_rfl, rfl⟩) hS3 ?_
        refine wpAnyH_take (i := 10) (v := undef) rfl (by kernel_rfl) (by kernel_rfl) (by kernel_rfl) (fun _ _ _ h => h) (Or.inr ⟨by kernel_rfl, rfl⟩) hS3 ?_
        refine wpAnyH_take (i := 11) (v := undef) rfl (by kernel_rfl) (by kernel_rfl) (by kernel_rfl) (fun _ _ _ h => h) (Or.inr ⟨by kernel_rfl, rfl⟩) hS3 ?_
        refine wpAnyH_ready (rs := [12]) (by kernel_rfl) (by simp) ?_
        refine AllReadyH.cons rfl (fun K hK => ?_) AllReadyH.nil
        go_simp
        refine hK.out _ _ hS3 (fun _ => ?_)
        clear hK K
        refine wpAnyH_done (by kernel_rfl) ?_ _
        have HB5 : Hid (Below W1.heap.size W1 W3) := hide (by have h3 : Below W1.heap.size W1 wr.drew := HB.out.drew; exact h3.trans (hb3.mono h3.size))
        clear hb3
        go_wp2_with fail
        go_roundw
        case rel => exact ⟨k + 1, by omega, by go_num, HB5, HX2⟩
        case measure => simp [intOf]; omega
      · have tin : decide (d ∈ ms) = false := decide_eq_false hin
        have Hok : Hid (okE ns es ms l t (u : Int) left d = (decide (va l y = left) && (decide (y = t) || decide (kindAt ns (y : Int) = 1)))) := hide (by rw [Hok.out, decide_eq_true hin, Bool.true_and])
        have e1 := Hdi.out
        clear Hdi
        subst e1
        obtain ⟨br, hbr⟩ : ∃ br, (decide (va l y = left) && (decide (y = t) || decide (kindAt ns (y : Int) = 1))) = br := ⟨_, rfl⟩
        rw [hbr] at Hok
        have K43' : Hid (∀ W, Below W0.heap.size W0 W → Calls Tryz.prog 259 #[.agg #[.slice a n c, .slice a' m c', .slice aM k0 cM, .int .i64 (t : Int), .slice (some ⟨g, 0, none⟩) n n], .int .i64 (y : Int), .int .i64 left] W fun e w' => e = .returned (.bool br) ∧ Below W.heap.size W w') := hide (fun W h => by rw [← hbr]; exact K43.out W y h Hy.out)
        have K42' : Hid (∀ W, Below W0.heap.size W0 W → Calls Tryz.prog 165 #[.slice aM k0 cM, .int .i64 ((i + 1 : Nat) : Int)] W fun e w' => e = .returned (.bool false) ∧ Below W.heap.size W w') := hide (fun W h => (K42.out W _ h).mono (by rintro e w' ⟨rfl, rfl⟩; rw [tin]; exact ⟨rfl, Below.refl _ _⟩))
        clear hbr hin tin
        go_upto_region 6 with fail
        refine wp_region_held_drew (S := SS) (by kernel_rfl) (s8.out _ (below_heap HB0.out rfl rfl rfl rfl)) (fun hS0 => ?_)
        refine wpAnyH_take (i := 0) (v := .pointer (some ⟨w.heap.size, 2, none⟩)) rfl (by kernel_rfl) (by kernel_rfl) (by kernel_rfl) (fun _ _ _ h => h) (Or.inl ⟨by rfl, fun W' hW => by go_simp⟩) hS0 ?_
        refine wpAnyH_take (i := 2) (v := .int .i64 ((i + 1 : Nat) : Int)) rfl (by kernel_rfl) (by kernel_rfl) (by kernel_rfl) (fun _ _ _ h => h) (Or.inl ⟨by rfl, fun W' hW => by go_simp⟩) hS0 ?_
        refine wpAnyH_take (i := 1) (v := .slice aM k0 cM) rfl (by kernel_rfl) (by kernel_rfl) (by kernel_rfl) (fun _ _ _ h => h) (Or.inl ⟨by rfl, fun W' hW => by obtain ⟨z0, z1, z2, z3, z4⟩ := sb.out W' hW; go_simp⟩) hS0 ?_
        refine wpAnyH_ready (rs := [3]) (by kernel_rfl) (by simp) ?_
        refine AllReadyH.cons rfl (fun K hK => ?_) AllReadyH.nil
        go_simp
        refine (K42'.out _ (s9.out _ hS0)).mono ?_
        rintro e W3 ⟨rfl, hb3⟩
        refine hK.out _ _ (s8.out _ ((s9.out _ hS0).trans (hb3.mono (s9.out _ hS0).size))) (fun hS1 => ?_)
        clear hK K
        refine wpAnyH_ready (rs := [4]) (by kernel_rfl) (by simp) ?_
        refine AllReadyH.cons rfl (fun K hK => ?_) AllReadyH.nil
        go_simp
        refine hK.out _ _ hS1 (fun hS2 => ?_)
        clear hK K
        refine wpAnyH_ready (rs := [5]) (by kernel_rfl) (by simp) ?_
        refine AllReadyH.cons rfl (fun K hK => ?_) AllReadyH.nil
        go_simp
        refine hK.out _ _ hS2 (fun hS3 => ?_)
        clear hK K
        refine wpAnyH_take (i := 6) (v := .agg #[.slice a n c, .slice a' m c', .slice aM k0 cM, .int .i64 (t : Int), .slice (some ⟨g, 0, none⟩) n n]) rfl (by kernel_rfl) (by kernel_rfl) (by kernel_rfl) (fun _ _ _ h => h) (Or.inl ⟨by rfl, fun W' hW => by obtain ⟨z0, z1, z2, z3, z4⟩ := sb.out W' hW; go_simp⟩) hS3 ?_
        refine wpAnyH_take (i := 7) (v := .agg #[.slice a n c, .slice a' m c', .slice aM k0 cM, .int .i64 (t : Int), .slice (some ⟨g, 0, none⟩) n n]) rfl (by kernel_rfl) (by kernel_rfl) (by kernel_rfl) (fun _ _ _ h => h) (Or.inl ⟨by rfl, fun W' hW => by obtain ⟨z0, z1, z2, z3, z4⟩ := sb.out W' hW; go_simp⟩) hS3 ?_
        refine wpAnyH_take (i := 8) (v := .int .i64 ((i + 1 : Nat) : Int)) rfl (by kernel_rfl) (by kernel_rfl) (by kernel_rfl) (fun _ _ _ h => h) (Or.inl ⟨by rfl, fun W' hW => by go_simp⟩) hS3 ?_
        refine wpAnyH_take (i := 10) (v := .int .i64 left) rfl (by kernel_rfl) (by kernel_rfl) (by kernel_rfl) (fun _ _ _ h => h) (Or.inl ⟨by rfl, fun W' hW => by go_simp⟩) hS3 ?_
        refine wpAnyH_ready (rs := [9]) (by kernel_rfl) (by simp) ?_
        refine AllReadyH.cons rfl (fun K hK => ?_) AllReadyH.nil
        go_simp
        refine (K34.out _ i y (s9.out _ hS3) Hi.out).mono ?_
        rintro e W4 ⟨rfl, hb4⟩
        refine hK.out _ _ (s8.out _ ((s9.out _ hS3).trans (hb4.mono (s9.out _ hS3).size))) (fun hS4 => ?_)
        clear hK K
        refine wpAnyH_ready (rs := [11]) (by kernel_rfl) (by simp) ?_
        refine AllReadyH.cons rfl (fun K hK => ?_) AllReadyH.nil
        go_simp
        refine (K43'.out _ (s9.out _ hS4)).mono ?_
        rintro e W5 ⟨rfl, hb5⟩
        refine hK.out _ _ (s8.out _ ((s9.out _ hS4).trans (hb5.mono (s9.out _ hS4).size))) (fun hS5 => ?_)
        clear hK K
        refine wpAnyH_ready (rs := [12]) (by kernel_rfl) (by simp) ?_
        refine AllReadyH.cons rfl (fun K hK => ?_) AllReadyH.nil
        go_simp
        refine hK.out _ _ hS5 (fun _ => ?_)
        clear hK K
        refine wpAnyH_done (by kernel_rfl) ?_ _
        have HB5 : Hid (Below W1.heap.size W1 W5) := hide (by
          have h2 : Below W1.heap.size W1 wr.drew := HB.out.drew
          have h3 := h2.trans (hb3.mono h2.size)
          have h4 := h3.trans (hb4.mono h3.size)
          exact h4.trans (hb5.mono h4.size))
        clear hb3 hb4 hb5
        cases br with
        | true =>
          have e2 := Hye.out Hok.out
          subst e2
          go_wp2_with fail
          go_ret
          exact ⟨rfl, HA.out.trans ((Hb.out.trans (HB5.out.mono Hb.out.size)).mono HA.out.size)⟩
        | false =>
          have HX2 := hide (HX1.out Hok.out)
          go_wp2_with fail
          go_roundw
          case rel => exact ⟨k + 1, by omega, by go_num, HB5, HX2⟩
          case measure => simp [intOf]; omega
    · obtain rfl : k = nD := by omega
      have j1 : ¬ (k : Int) < (k : Int) := by omega
      have e2 := Hno.out HX.out
      subst e2
      go_wp2_with fail
      go_ret
      exact ⟨rfl, HA.out.trans ((Hb.out.trans (HB.out.mono Hb.out.size)).mono HA.out.size)⟩
end Go.Proofs.YtocmngpoemfpkaaGreatDoor

namespace Go.Proofs.YtocmngpoemfpkaaGreatDoor
open Go.RowKit
set_option linter.unusedVariables false
def lenV : Value → Nat
  | .slice _ n _ => n
  | _ => 0
set_option maxRecDepth 100000 in
set_option maxHeartbeats 4000000 in
theorem path_any (a a' aM : Option Addr) (c c' cM n m k0 t g u k : Nat) (ns : List Nd) (es : List Ed) (ms l : List Int) (w : World) (hW : Wy w a a' aM c c' cM n m k0 t g ns es ms l) (hu : va l u = (k : Int)) :
    Calls Tryz.prog 233 #[.agg #[.slice a n c, .slice a' m c', .slice aM k0 cM, .int .i64 (t : Int), .slice (some ⟨g, 0, none⟩) n n], .int .i64 (u : Int)] w fun e w' => (∃ v, e = .returned v ∧ intE.Own w' w.heap.size v (pth ns es ms l t k u)) ∧ Below w.heap.size w w' := by
  obtain ⟨W0, hW0⟩ : ∃ W0, w.alloc (.cells #[.slice a n c, .slice a' m c', .slice aM k0 cM, .int .i64 (t : Int), .slice (some ⟨g, 0, none⟩) n n] 296) = W0 := ⟨_, rfl⟩
  have bA : Below w.heap.size w W0 := by rw [← hW0]; exact (Below.refl _ _).alloc (Nat.le_refl _) _
  have hbox : W0.heap[w.heap.size]? = some (.cells #[.slice a n c, .slice a' m c', .slice aM k0 cM, .int .i64 (t : Int), .slice (some ⟨g, 0, none⟩) n n] 296) := by rw [← hW0]; exact heap_new _ _
  have HBOX := hide hbox
  have HA := hide bA
  have HW0 := hide hW0
  have HWy : Hid (∀ W, Below W0.heap.size W0 W → Wy W a a' aM c c' cM n m k0 t g ns es ms l) := hide (fun W h => hW.keep (bA.trans (h.mono bA.size)))
  have Hgr := hide hW.gr
  have Hkn : Hid (k < n) := hide (by have := hW.gr.high u; omega)
  have Hn4 := hide hW.ly.n4
  have K30 : Hid (∀ W (v : Nat) (left : Int), Below W0.heap.size W0 W → v < n → Calls Tryz.prog 250 #[.agg #[.slice a n c, .slice a' m c', .slice aM k0 cM, .int .i64 (t : Int), .slice (some ⟨g, 0, none⟩) n n], .int .i64 (v : Int), .int .i64 left] W fun e w' => e = .returned (.int .i64 (stpW ns es ms l t (v : Int) left)) ∧ Below W.heap.size W w') := hide (fun W v left h hv => w_step_any a a' aM c c' cM n m k0 t g v ns es ms l left W (HWy.out W h) hv)
  have K34 : Hid (∀ W (i v y : Nat), Below W0.heap.size W0 W → es[i]? = some ((v : Int), (y : Int)) → Calls Tryz.prog 251 #[.agg #[.slice a n c, .slice a' m c', .slice aM k0 cM, .int .i64 (t : Int), .slice (some ⟨g, 0, none⟩) n n], .int .i64 ((i + 1 : Nat) : Int)] W fun e w' => e = .returned (.int .i64 (y : Int)) ∧ Below W.heap.size W w') := hide (fun W i v y h hi => (end_any a a' aM c c' cM n m k0 (t : Int) (.slice (some ⟨g, 0, none⟩) n n) es i (v : Int) (y : Int) W (HWy.out W h).ly.hu hW.ly.hm (by have := hW.ly.m4; omega) hi).mono (by
    rintro e w' ⟨h1, rfl⟩
    exact ⟨h1, (Below.refl _ _).alloc (Nat.le_refl _) _⟩))
  obtain ⟨SS, hSS⟩ : ∃ SS : World → Prop, SS = fun W' => Below W0.heap.size W0 W' := ⟨_, rfl⟩
  have s9 : Hid (∀ W', SS W' → Below W0.heap.size W0 W') := hide (fun W' h => by rw [hSS] at h; exact h)
  have s8 : Hid (∀ W', Below W0.heap.size W0 W' → SS W') := hide (fun W' h => by rw [hSS]; exact h)
  have sb : Hid (∀ W', SS W' → W'.cell? ⟨w.heap.size, 0, none⟩ = some (.slice a n c) ∧ W'.cell? ⟨w.heap.size, 1, none⟩ = some (.slice a' m c') ∧ W'.cell? ⟨w.heap.size, 2, none⟩ = some (.slice aM k0 cM) ∧ W'.cell? ⟨w.heap.size, 3, none⟩ = some (.int .i64 (t : Int)) ∧ W'.cell? ⟨w.heap.size, 4, none⟩ = some (.slice (some ⟨g, 0, none⟩) n n)) := hide (fun W' h => box5W HBOX.out (s9.out W' h))
  have Hu := hide hu
  obtain ⟨res, hres⟩ : ∃ res, pth ns es ms l t k u = res := ⟨_, rfl⟩
  rw [hres]
  have Hres := hide hres
  clear hW hu hbox bA hW0 hSS hres
  go_enter Tryz.func233, Tryz.ntmps233
  go_upto_region 1 with fail
  rw [HW0.out]
  clear HW0
  go_wp2_with fail
  go_loopw [1, 5] (fun v1 v5 wr => ∃ (r v : Nat) (xs : List Int), v1 = .int .i64 (v : Int) ∧ Hid (va l v = (r : Int) ∧ xs.length + r = k ∧ xs ++ pth ns es ms l t r v = res) ∧ Hid (intE.Own wr W0.heap.size v5 xs) ∧ Hid (Below W0.heap.size W0 wr)) (fun _ v5 _ => k - lenV v5)
  case atStart => exact ⟨k, u, [], rfl, hide ⟨Hu.out, by simp, by simpa using Hres.out⟩, hide (El.Own.nil _ _ _), hide (Below.refl _ _)⟩
  case round =>
    obtain ⟨r, v, xs, rfl, HX, HO, HB⟩ := hrel
    obtain ⟨z0, z1, z2, z3, z4⟩ := box5W HBOX.out HB.out
    obtain ⟨aD, cD, rfl⟩ := HO.out.rd.form
    obtain ⟨nD, hnD⟩ : ∃ nD, xs.length = nD := ⟨_, rfl⟩
    rw [hnD] at HO HX ⊢
    have Hnd := hide hnD
    clear hnD
    rcases r with _ | r
    · have hvt : v = t := Hgr.out.only (by simpa using HX.out.1)
      subst hvt
      have q1 : ((v : Int) != (v : Int)) = false := bne_self_eq_false _
      have HR : Hid (xs = res) := hide (by have := HX.out.2.2; simpa [pth] using this)
      go_wp2_with fail
      go_ret
      exact ⟨⟨_, rfl, by rw [← HR.out]; exact HO.out.mono HA.out.size⟩, HA.out.trans (HB.out.mono HA.out.size)⟩
    · have hne : v ≠ t := fun e => by have h1 := HX.out.1; rw [e, Hgr.out.zero] at h1; omega
      have q1 : ((v : Int) != (t : Int)) = true := bne_iff_ne.2 (by omega)
      obtain ⟨i, y, g1, g2, g3, g4, g5, g6, g7, g8⟩ := Hgr.out.on HX.out.1
      have hvn : v < n := Hgr.out.out (by rw [HX.out.1]; omega)
      have Hvn := hide hvn
      have j0 : (0 : Int) ≤ (v : Int) := by omega
      have j1 : (v : Int) < (n : Int) := by omega
      have j2 : (r : Int) ≤ 1000 := by have h1 := Hkn.out; have h2 := Hn4.out; have h3 := HX.out.2.1; omega
      have j3 : (0 : Int) ≤ (r : Int) := by omega
      have hwr : IntKind.i64.wrap (r : Int) = (r : Int) := i64_small _ (by omega) (by omega)
      have sc : Hid (∀ W', SS W' → W'.cell? ⟨g, v, none⟩ = some (.int .i64 ((r : Int) + 1))) := hide (fun W' h => by
        have h1 := (HWy.out W' (s9.out W' h)).at v Hvn.out
        rw [HX.out.1] at h1
        rw [h1, show ((r + 1 : Nat) : Int) = (r : Int) + 1 by omega])
      obtain ⟨D, hD⟩ : ∃ D : Int, ((i + 1 : Nat) : Int) = D := ⟨_, rfl⟩
      have K34' : Hid (∀ W, Below W0.heap.size W0 W → Calls Tryz.prog 251 #[.agg #[.slice a n c, .slice a' m c', .slice aM k0 cM, .int .i64 (t : Int), .slice (some ⟨g, 0, none⟩) n n], .int .i64 D] W fun e w' => e = .returned (.int .i64 (y : Int)) ∧ Below W.heap.size W w') := hide (fun W h => by rw [← hD]; exact K34.out W i v y h g3)
      rw [hD] at g1
      have K30' : Hid (∀ W, Below W0.heap.size W0 W → Calls Tryz.prog 250 #[.agg #[.slice a n c, .slice a' m c', .slice aM k0 cM, .int .i64 (t : Int), .slice (some ⟨g, 0, none⟩) n n], .int .i64 (v : Int), .int .i64 (r : Int)] W fun e w' => e = .returned (.int .i64 D) ∧ Below W.heap.size W w') := hide (fun W h => by rw [← g1]; exact K30.out W v (r : Int) h Hvn.out)
      have HX1 : Hid (va l y = (r : Int) ∧ (xs ++ [D]).length + r = k ∧ (xs ++ [D]) ++ pth ns es ms l t r y = res) := hide ⟨g6, by have := HX.out.2.1; have := Hnd.out; simp; omega, by
        have h1 := HX.out.2.2
        unfold pth at h1
        rw [g8, g1] at h1
        rw [List.append_assoc]; exact h1⟩
      have Hln : Hid (xs.length + 1 ≤ 1000000) := hide (by have h1 := Hkn.out; have h2 := Hn4.out; have h3 := HX.out.2.1; have := Hnd.out; omega)
      clear g1 g2 g3 g4 g5 g6 g7 g8 hvn hne HX hD
      go_upto_region 3 with fail
      refine wp_region_held_drew (S := SS) (by kernel_rfl) (s8.out _ (below_heap HB.out rfl rfl rfl rfl)) (fun hS0 => ?_)
      refine wpAnyH_take (i := 0) (v := .agg #[.slice a n c, .slice a' m c', .slice aM k0 cM, .int .i64 (t : Int), .slice (some ⟨g, 0, none⟩) n n]) rfl (by kernel_rfl) (by kernel_rfl) (by kernel_rfl) (fun _ _ _ h => h) (Or.inl ⟨by rfl, fun W' hW => by obtain ⟨z0, z1, z2, z3, z4⟩ := sb.out W' hW; go_simp⟩) hS0 ?_
      refine wpAnyH_take (i := 1) (v := .int .i64 (v : Int)) rfl (by kernel_rfl) (by kernel_rfl) (by kernel_rfl) (fun _ _ _ h => h) (Or.inl ⟨by rfl, fun W' hW => by go_simp⟩) hS0 ?_
      refine wpAnyH_take (i := 2) (v := .pointer (some ⟨w.heap.size, 4, none⟩)) rfl (by kernel_rfl) (by kernel_rfl) (by kernel_rfl) (fun _ _ _ h => h) (Or.inl ⟨by rfl, fun W' hW => by go_simp⟩) hS0 ?_
      refine wpAnyH_take (i := 4) (v := .int .i64 (v : Int)) rfl (by kernel_rfl) (by kernel_rfl) (by kernel_rfl) (fun _ _ _ h => h) (Or.inl ⟨by rfl, fun W' hW => by go_simp⟩) hS0 ?_
      refine wpAnyH_take (i := 3) (v := .slice (some ⟨g, 0, none⟩) n n) rfl (by kernel_rfl) (by kernel_rfl) (by kernel_rfl) (fun _ _ _ h => h) (Or.inl ⟨by rfl, fun W' hW => by obtain ⟨z0, z1, z2, z3, z4⟩ := sb.out W' hW; go_simp⟩) hS0 ?_
      refine wpAnyH_take (i := 5) (v := .pointer (some ⟨g, v, none⟩)) rfl (by kernel_rfl) (by kernel_rfl) (by kernel_rfl) (fun _ _ _ h => h) (Or.inl ⟨by rfl, fun W' hW => by go_simp⟩) hS0 ?_
      refine wpAnyH_take (i := 6) (v := .int .i64 ((r : Int) + 1)) rfl (by kernel_rfl) (by kernel_rfl) (by kernel_rfl) (fun _ _ _ h => h) (Or.inl ⟨by rfl, fun W' hW => by have z5 := sc.out W' hW; go_simp⟩) hS0 ?_
      refine wpAnyH_take (i := 7) (v := .int .i64 (r : Int)) rfl (by kernel_rfl) (by kernel_rfl) (by kernel_rfl) (fun _ _ _ h => h) (Or.inl ⟨by rfl, fun W' hW => by go_simp⟩) hS0 ?_
      refine wpAnyH_ready (rs := [8]) (by kernel_rfl) (by simp) ?_
      refine AllReadyH.cons rfl (fun K hK => ?_) AllReadyH.nil
      go_simp
      refine (K30'.out _ (s9.out _ hS0)).mono ?_
      rintro e W3 ⟨rfl, hb3⟩
      refine hK.out _ _ (s8.out _ ((s9.out _ hS0).trans (hb3.mono (s9.out _ hS0).size))) (fun hS1 => ?_)
      clear hK K
      refine wpAnyH_ready (rs := [9]) (by kernel_rfl) (by simp) ?_
      refine AllReadyH.cons rfl (fun K hK => ?_) AllReadyH.nil
      go_simp
      refine hK.out _ _ hS1 (fun _ => ?_)
      clear hK K
      refine wpAnyH_done (by kernel_rfl) ?_ _
      have HO1 : Hid (intE.Own W3 W0.heap.size (.slice aD nD cD) xs) := hide (by
        have h1 : Below wr.heap.size wr wr.drew := (Below.refl _ _).drew
        exact (HO.out.keep h1).keep hb3)
      have HB1 : Hid (Below W0.heap.size W0 W3) := hide (s9.out _ hS1)
      have HB2 : Hid (Below W0.heap.size W0 (W3.alloc (.cells #[.int .i64 D] 3))) := hide (HB1.out.alloc HB1.out.size _)
      have HO2 : Hid (intE.Own (W3.alloc (.cells #[.int .i64 D] 3)) W0.heap.size (.slice aD nD cD) xs) := hide (World.ownsRow.alloc HO1.out _)
      clear hb3 K30' sc z0 z1 z2 z3 z4
      go_upto_region 5 with (at_builtin; refine intE.wp (w0 := W0) HB2.out (by rfl) _ _ rfl _ _ rfl rfl xs [D] HO2.out (int_new _ _ _ rfl) (by simpa using Hln.out) ?_; intro v1 w2 ho2 _ _ hb2; have HO3 := hide ho2; have HB3 := hide hb2; obtain ⟨z0, z1, z2, z3, z4⟩ := box5W HBOX.out hb2; clear ho2 hb2; refine Hid.out ?_)
      refine hide ?_
      obtain ⟨aQ, cQ, rfl⟩ := HO3.out.rd.form
      have Hln2 : Hid ((xs ++ [D]).length = nD + 1) := hide (by rw [List.length_append, Hnd.out]; rfl)
      rw [Hln2.out] at HO3 ⊢
      go_wp2_with (go_at_call 251; refine (K34'.out _ HB3.out).mono ?_; rintro e W5 ⟨rfl, hb5⟩; have HO5 := hide (HO3.out.keep hb5); have HB5 : Hid (Below W0.heap.size W0 W5) := hide (HB3.out.trans (hb5.mono HB3.out.size)); clear hb5)
      go_roundw
      case rel => exact ⟨r, y, xs ++ [D], rfl, HX1, HO5, HB5⟩
      case measure => have h1 := HX1.out.2.1; rw [Hln2.out] at h1; simp [lenV]; omega
end Go.Proofs.YtocmngpoemfpkaaGreatDoor
