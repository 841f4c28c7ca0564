/- Put of a sender. -/
import Derived.Test.YteihajppgooadaaSnew
import Derived.Test.YteihajppgooadaaExm
import Derived.Deep.RegionWith
import Derived.Lib.SliceRun
namespace Go.Proofs.Yteihajppgooadaa
open Go.RowKit
set_option linter.unusedVariables false

theorem copy_any {w : World} {v : Value} {l : List Int} (hs : bytesE.Rd w v l) (hm : l.length ≤ 1000) :
    Calls Try.prog 31 #[v] w fun e w' => ∃ v', e = .returned v' ∧ bytesE.Own w' w.heap.size v' l ∧ Below w.heap.size w w' := by
  have hb0 : Below w.heap.size w (w.alloc (.cells #[] 5)) := (Below.refl _ _).alloc (Nat.le_refl _) _
  have hq : ∀ W a n c, (binOp .eql 36 (.slice a n c) (.slice none 0 0)).run Try.prog W = .ok (.bool a.isNone) W := fun W a n c => Lib.run_eql_slice_nil W 36 5 a n c 0 0 Try.underlying36
  rcases hs with ⟨rfl, rfl⟩ | ⟨x, cap, rfl, hc⟩
  · go_enter Try.func31, Try.ntmps31
    go_wp2_with fail
    go_ret
    exact ⟨_, rfl, El.Own.nil _ _ _, Below.refl _ _⟩
  · have Hs : Hid (bytesE.Rd w (.slice (some x) l.length cap) l) := hide (.inr ⟨x, cap, rfl, hc⟩)
    have Hm := hide hm
    clear hc hm
    go_enter Try.func31, Try.ntmps31
    go_wp2_with (at_builtin; refine bytesE.wp hb0 (by rfl) _ _ rfl _ _ rfl rfl [] l (El.Own.new bytesE _ _ (Nat.le_refl _) #[] [] rfl (by simp) _ _ _ rfl rfl rfl) (Hs.out.keep hb0) (by simp; have := Hm.out; omega) ?_; intro v1 w1 hown _ _ hb1; refine Hid.out ?_)
    refine hide ?_
    rw [List.nil_append] at hown
    go_wp2_with fail
    go_ret
    exact ⟨_, rfl, hown, hb1⟩

set_option maxHeartbeats 1000000 in
theorem put_dead {w : World} {g B : Nat} {S : Sd} (H : Snd w g B S) (hd : S.dead = true) (a : Option Addr) (n c : Nat) : Calls Try.prog 12 #[.pointer (some ⟨g, 0, none⟩), .slice a n c] w fun e w' => e = .returned (.tuple #[.int .u16 0, .int .i64 190]) ∧ w' = w := by
  obtain ⟨c0, c1, c2, c3, c4, c5⟩ := H.cells
  rw [hd] at c5
  clear H hd
  go_enter Try.func12, Try.ntmps12
  go_wp2_with fail
  go_ret2
  exact ⟨rfl, rfl⟩

set_option maxHeartbeats 1000000 in
theorem put_long {w : World} {g B : Nat} {S : Sd} (H : Snd w g B S) (hd : S.dead = false) (a : Option Addr) (n c : Nat) (hn : 256 < n) : Calls Try.prog 12 #[.pointer (some ⟨g, 0, none⟩), .slice a n c] w fun e w' => e = .returned (.tuple #[.int .u16 0, .int .i64 3]) ∧ w' = w := by
  obtain ⟨c0, c1, c2, c3, c4, c5⟩ := H.cells
  rw [hd] at c5
  have hi : (256 : Int) < (n : Int) := by omega
  clear H hd
  go_enter Try.func12, Try.ntmps12
  go_wp2_with fail
  go_ret2
  exact ⟨rfl, rfl⟩

set_option maxHeartbeats 1000000 in
theorem put_full {w : World} {g B : Nat} {S : Sd} (H : Snd w g B S) (hO : S.Ok) (hd : S.dead = false) (a : Option Addr) (n c : Nat) (hn : n ≤ 256) (hf : S.win < S.count - S.lo + 1) : Calls Try.prog 12 #[.pointer (some ⟨g, 0, none⟩), .slice a n c] w fun e w' => e = .returned (.tuple #[.int .u16 0, .int .i64 5]) ∧ ∃ n, w' = w.drewN n := by
  obtain ⟨c0, c1, c2, c3, c4, c5⟩ := H.cells
  rw [hd] at c5
  have hi : ¬ (256 : Int) < (n : Int) := by omega
  have k30 := hide (fun n => numbers_any (H.drewN n) hO)
  generalize S.count - S.lo + 1 = d at *
  generalize S.win = win at *
  clear H hd hO
  go_enter Try.func12, Try.ntmps12
  go_wp2_with fail
  go_quiet ((go_at_call 30; exact Calls.quiet_of (k30.out _)))
  go_wp2_with fail
  go_ret2
  exact ⟨rfl, nq, rfl⟩

/-- append onto a row of whatever base -/
theorem El.stepB {P : Program} {α : Type} (E : El P α) {B : Nat} {w : World} (hB : B ≤ w.heap.size) {ops : Array Oper} {o : Oper} {a : Act} {K : Act → World → Prop} {Q : Exit → Act → World → Prop} {F : Prop} (hgd : o.guard = none) (s x : Operand)
    (ho : o.op = .call { callee := .builtin .append, args := #[s, x], argTypes := #[E.t, E.t] }) (v u : Value) (hs : a.eval s = v) (hx : a.eval x = u)
    (xs ys : List α) (hown : E.Own w B v xs) (hu : E.Rd w u ys) (hn : xs.length + ys.length ≤ 1000000)
    (h : ∀ v' w', E.Own w' B v' (xs ++ ys) → w.grownBy w' v.ownBlock → (v'.ownBlock = v.ownBlock ∨ v'.ownBlock = some w.heap.size) → K (a.put o.dst v') w') :
    if Region.wanted o (yielded ops a.tmps) = true then Oper.wp P o a w K Q else F := by
  have hw : Region.wanted o (yielded ops a.tmps) = true := by simp [Region.wanted, hgd]
  rw [if_pos hw]
  obtain ⟨v', w', hr, h2, h3, h4⟩ := E.run hown hB hu hn o.type
  unfold Oper.wp execOp
  simp only [ho, resolve, invoke, builtin, Sem.run_bind, Sem.run_pure, Result.andThen_ok, List.map_toArray, List.map_cons, List.map_nil, hs, hx, hr]
  exact h v' w' h2 h3 h4

/-- a piece more -/
def Sd.put (S : Sd) (v : Value) (p : Pc) : Sd := { S with v := v, ps := S.ps ++ [p], count := S.count + 1 }

/-- a piece of new cells -/
theorem pc_new (w : World) (first : Int) (p : Pc) (g : Nat) (hg : g = w.heap.size) : (pcE first).Rd (w.alloc (.cells #[.int .u16 (sq first p.n), .slice p.a p.l p.c, .int .i64 p.sent, .int .i64 p.ago] 83)) (.slice (some ⟨g, 0, none⟩) 1 1) [p] := by
  subst hg
  refine .inr ⟨_, 1, rfl, fun i hi => ?_⟩
  rw [addr_plain, Nat.zero_add]
  have e : (w.alloc (.cells #[.int .u16 (sq first p.n), .slice p.a p.l p.c, .int .i64 p.sent, .int .i64 p.ago] 83)).heap[w.heap.size]? = some (.cells #[.int .u16 (sq first p.n), .slice p.a p.l p.c, .int .i64 p.sent, .int .i64 p.ago] 83) := by
    show (w.heap.push _)[w.heap.size]? = _
    simp
  unfold World.cell?
  simp only [e]
  have : i < 4 := by simpa [pcE] using hi
  match i, this with
  | 0, _ => rfl
  | 1, _ => rfl
  | 2, _ => rfl
  | 3, _ => rfl

theorem wrap_next (first n : Int) : IntKind.u16.wrap (sq first n + 1) = sq first (n + 1) := by
  unfold IntKind.wrap sq; simp [IntKind.bits, IntKind.signed]; omega

/-- what is put lies behind the pieces -/
theorem put_lies {w w1 w2 : World} {g B : Nat} {S : Sd} (H : Snd w g B S) (hB1 : Below w.heap.size w w1) {p : Pc} (hp : bytesE.Own w1 w.heap.size p.v p.d) {v' : Value} (hr : (pcE S.first).Own w2 B v' (S.ps ++ [p])) {o : Obj} (hg : (w1.alloc o).grownBy w2 S.v.ownBlock) (hv : v'.ownBlock = S.v.ownBlock ∨ v'.ownBlock = some (w1.alloc o).heap.size) :
    Snd ((w2.setCell ⟨g, 4, none⟩ v').setCell ⟨g, 3, none⟩ (.int .u16 (sq S.first (S.count + 1)))) g B (S.put v' p) ∧ Chg g S.v w ((w2.setCell ⟨g, 4, none⟩ v').setCell ⟨g, 3, none⟩ (.int .u16 (sq S.first (S.count + 1)))) ∧ (∀ k, v'.ownBlock = some k → S.v.ownBlock = some k ∨ w.heap.size ≤ k) := by
  have hst : ∀ k cur t, t ≠ 83 → w.heap[k]? = some (Obj.cells cur t) → w2.heap[k]? = w.heap[k]? := fun k cur t ht hk => by
    have hlt := heap_lt hk
    have hne : some k ≠ S.v.ownBlock := fun e => by
      obtain ⟨cur', hc', _⟩ := own_cells H.lies.row k e.symm
      rw [hc'] at hk; simp only [Option.some.injEq, Obj.cells.injEq] at hk; exact ht hk.2.1.symm
    rw [hg.block k (by have := hB1.size; simp; omega) hne, Below.heap_alloc _ _ _ (by have := hB1.size; omega), hB1.block k hlt]
  have hbox : w2.heap[g]? = some (.cells (boxS S) 79) := by rw [hst g _ 79 (by decide) H.box]; exact H.box
  have hlies : Lies w2 B S.first v' (S.ps ++ [p]) := by
    refine ⟨hr, fun q hq => ?_⟩
    rcases List.mem_append.1 hq with hq | hq
    · exact own_chg (H.lies.dat q hq) fun k cur _ hc => hst k cur 5 (by decide) hc
    · have e : q = p := by simpa using hq
      subst e
      refine own_chg (hp.mono (Nat.zero_le _)) fun k cur hk hc => ?_
      have hge : w.heap.size ≤ k := hp.ge k hk
      rw [hg.block k (by have := heap_lt hc; simp; omega) (fun e => by have := H.lies.row.lt k e.symm; omega), Below.heap_alloc _ _ _ (heap_lt hc)]
  have h1 := Snd.putV H.lim H.base hbox hlies
  have h2 := h1.putN (S.count + 1)
  refine ⟨h2, ?_, fun k hk => ?_⟩
  · have x : Chg g S.v w w2 := ⟨hg.os.trans hB1.os, hg.tape.trans hB1.tape, hg.output.trans hB1.output, Nat.le_trans hB1.size (Nat.le_trans (by simp) hg.size), fun k hk h1 h2 => by
      rw [hg.block k (by have := hB1.size; simp; omega) (fun e => h2 e.symm), Below.heap_alloc _ _ _ (by have := hB1.size; omega), hB1.block k hk]⟩
    exact (x.trans' (chg_box g 4 S.v v' w2)).trans' (chg_box g 3 S.v _ _)
  · rcases hv with h | h
    · exact .inl (h ▸ hk)
    · rw [h] at hk
      have hk' : (w1.alloc o).heap.size = k := by simpa using hk
      have := hB1.size
      have h2 : (w1.alloc o).heap.size = w1.heap.size + 1 := by simp
      exact .inr (by omega)

set_option maxRecDepth 100000 in
set_option maxHeartbeats 4000000 in
theorem put_ok {w : World} {g B : Nat} {S : Sd} (H : Snd w g B S) (hO : S.Ok) (hB : B ≤ w.heap.size) (hd : S.dead = false) {v : Value} {l : List Int} (hv : bytesE.Rd w v l) (hn : l.length ≤ 256) (hf : S.count - S.lo + 1 ≤ S.win) :
    Calls Try.prog 12 #[.pointer (some ⟨g, 0, none⟩), v] w fun e w' => e = .returned (.tuple #[.int .u16 (sq S.first S.count), .int .i64 0]) ∧ ∃ p v', p.n = S.count ∧ p.d = l ∧ p.sent = 0 ∧ p.ago = 0 ∧ Snd w' g B (S.put v' p) ∧ Chg g S.v w w' ∧ (∀ k, v'.ownBlock = some k → S.v.ownBlock = some k ∨ w.heap.size ≤ k) ∧ (∀ k, p.v.ownBlock = some k → w.heap.size ≤ k) := by
  obtain ⟨a, ca, rfl⟩ := hv.form
  obtain ⟨c0, c1, c2, c3, c4, c5⟩ := H.cells
  rw [hd] at c5
  have hi : ¬ (256 : Int) < (l.length : Int) := by omega
  have hlen := hO.len H.lim.win.1
  have hwin := H.lim.win
  have k30 := hide (fun n => numbers_any (H.drewN n) hO)
  have hi2 : ¬ S.win < S.count - S.lo + 1 := by omega
  have HH := hide H
  have HV := hide hv
  have Hn := hide hn
  have Hl : Hid (S.ps.length + 1 ≤ 1000) := hide (by omega)
  generalize S.count - S.lo + 1 = d at *
  clear hd hO hv hn hf hlen hwin H
  go_enter Try.func12, Try.ntmps12
  go_wp2_with fail
  go_quiet ((go_at_call 30; exact Calls.quiet_of (k30.out _)))
  have H1 := HH.out.drewN nq
  have HB1 : Hid (Below w.heap.size w (w.drewN nq)) := hide ⟨rfl, rfl, rfl, Nat.le_refl _, fun _ _ => rfl⟩
  have HV1 := hide (HV.out.keep HB1.out)
  have hz : (w.drewN nq).heap.size = w.heap.size := rfl
  generalize w.drewN nq = W at *
  clear c0 c1 c2 c3 c4 c5 HH HV k30 hi
  obtain ⟨c0, c1, c2, c3, c4, c5⟩ := H1.cells
  have f3 := H1.cold 3
  have f4 := H1.cold 4
  have HH := hide H1
  clear c0 c1 c2 c5 H1
  go_upto_region 8 with fail
  have hr4 : Hid ((pcE S.first).Own W B S.v S.ps) := hide HH.out.lies.row
  obtain ⟨SS, hSS⟩ : ∃ SS : World → Prop, SS = fun W' => W'.cell? ⟨g, 4, none⟩ = some S.v ∧ W'.frozen? ⟨g, 4, none⟩ = false := ⟨_, rfl⟩
  have s1 : ∀ W', SS W' → W'.cell? ⟨g, 4, none⟩ = some S.v := fun W' h => by rw [hSS] at h; exact h.1
  have s2 : ∀ W', SS W' → W'.frozen? ⟨g, 4, none⟩ = false := fun W' h => by rw [hSS] at h; exact h.2
  have FG : Hid (∀ W', W'.heap[g]? = W.heap[g]? → SS W') := hide (fun W' hW => by
    rw [hSS]
    exact ⟨by rw [World.cell?_of_block (w := W) hW]; exact c4, by rw [World.frozen?_of_block (w := W) hW]; exact f4⟩)
  have hlt := heap_lt HH.out.box
  have FS : Hid (∀ W', Below W.heap.size W W' → SS W') := hide (fun W' hW => FG.out W' (hW.block g hlt))
  clear hSS
  have bD : Below W.heap.size W W.drew := (Below.refl _ _).drew
  have hS0 := FS.out _ bD
  have K31 := hide (copy_any (HV1.out.keep bD) (by have := Hn.out; omega))
  obtain ⟨nx, hnx⟩ : ∃ nx, sq S.first S.count = nx := ⟨_, rfl⟩
  rw [hnx] at c3 ⊢
  refine wp_region_E SS 13 (by kernel_rfl) ?_
  refine wpAnyE_take (i := 0) (v := .pointer (some ⟨g, 0, none⟩)) rfl (by kernel_rfl) (by kernel_rfl) (by kernel_rfl) (by kernel_rfl) (fun _ _ _ h => h) (Or.inl ⟨by rfl, fun W' hW => by go_simp⟩) hS0 ?_
  refine wpAnyE_take (i := 1) (v := .pointer (some ⟨g, 0, none⟩)) rfl (by kernel_rfl) (by kernel_rfl) (by kernel_rfl) (by kernel_rfl) (fun _ _ _ h => h) (Or.inl ⟨by rfl, fun W' hW => by go_simp⟩) hS0 ?_
  refine wpAnyE_take (i := 2) (v := .pointer (some ⟨g, 0, none⟩)) rfl (by kernel_rfl) (by kernel_rfl) (by kernel_rfl) (by kernel_rfl) (fun _ _ _ h => h) (Or.inl ⟨by rfl, fun W' hW => by go_simp⟩) hS0 ?_
  refine wpAnyE_take (i := 3) (v := .pointer (some ⟨g, 4, none⟩)) rfl (by kernel_rfl) (by kernel_rfl) (by kernel_rfl) (by kernel_rfl) (fun _ _ _ h => h) (Or.inl ⟨by rfl, fun W' hW => by go_simp⟩) hS0 ?_
  refine wpAnyE_take (i := 4) (v := S.v) rfl (by kernel_rfl) (by kernel_rfl) (by kernel_rfl) (by kernel_rfl) (fun _ _ _ h => h) (Or.inl ⟨by rfl, fun W' hW => by have := s1 W' hW; go_simp⟩) hS0 ?_
  refine wpAnyE_take (i := 5) (v := .int .u16 nx) rfl (by kernel_rfl) (by kernel_rfl) (by kernel_rfl) (by kernel_rfl) (fun _ _ _ h => h) (Or.inl ⟨by rfl, fun W' hW => by go_simp⟩) hS0 ?_
  refine wpAnyE_take (i := 6) (v := .slice a l.length ca) rfl (by kernel_rfl) (by kernel_rfl) (by kernel_rfl) (by kernel_rfl) (fun _ _ _ h => h) (Or.inl ⟨by rfl, fun W' hW => by go_simp⟩) hS0 ?_
  refine wpAnyE_ready (rs := [7]) (by kernel_rfl) (by simp) ?_
  refine AllReadyE.cons rfl (fun K hK => ?_) AllReadyE.nil
  go_simp
  refine K31.out.mono ?_
  rintro e w1 ⟨v1, rfl, ho1, hb1⟩
  have bW1 : Below W.heap.size W w1 := ⟨hb1.os, hb1.tape, hb1.output, hb1.size, hb1.block⟩
  have ho1' : bytesE.Own w1 W.heap.size v1 l := ho1
  clear ho1 hb1 K31
  obtain ⟨a1, cc1, rfl⟩ := ho1'.rd.form
  refine hK.out _ _ (fun _ => FS.out _ bW1) ?_
  clear hK K
  refine wpAnyE_ready (rs := [8]) (by kernel_rfl) (by simp) ?_
  refine AllReadyE.cons rfl (fun K hK => ?_) AllReadyE.nil
  go_simp
  refine hK.out _ _ (fun _ => FS.out _ bW1) ?_
  clear hK K
  refine wpAnyE_ready (rs := [9]) (by kernel_rfl) (by simp) ?_
  refine AllReadyE.cons rfl (fun K hK => ?_) AllReadyE.nil
  go_simp
  have bX := bW1.alloc bW1.size (.cells #[.int .u16 nx, .slice a1 l.length cc1, .int .i64 0, .int .i64 0] 83)
  refine hK.out _ _ (fun _ => FS.out _ bX) ?_
  clear hK K
  refine wpAnyE_ready (rs := [10]) (by kernel_rfl) (by simp) ?_
  refine AllReadyE.cons rfl (fun K hK => ?_) AllReadyE.nil
  obtain ⟨p, hp⟩ : ∃ p : Pc, p = ⟨S.count, a1, l.length, cc1, l, 0, 0⟩ := ⟨_, rfl⟩
  have hpn := pc_new w1 S.first p w1.heap.size rfl
  have hrow : (pcE S.first).Own (w1.alloc (.cells #[.int .u16 nx, .slice a1 l.length cc1, .int .i64 0, .int .i64 0] 83)) B S.v S.ps := hr4.out.keep bX
  have hpd : bytesE.Own w1 W.heap.size p.v p.d := by rw [hp]; exact ho1'
  have HQ : Hid (∀ k, p.v.ownBlock = some k → W.heap.size ≤ k) := hide (fun k hk => hpd.ge k hk)
  rw [hp] at hpn
  simp only [hnx] at hpn
  refine (pcE S.first).stepB (B := B) (by have := bX.size; rw [hz] at this; omega) rfl (.tmp 29) (.tmp 34) rfl S.v (.slice (some ⟨w1.heap.size, 0, none⟩) 1 1) rfl rfl S.ps [_] hrow hpn (by have := Hl.out; simp; omega) ?_
  intro v8 w8 ho8 hg8 hz8
  have hb8 : w8.heap[g]? = W.heap[g]? := by
    rw [hg8.block g (by have := bX.size; omega) (fun e => by
      obtain ⟨cur, hc, _⟩ := own_cells HH.out.lies.row g e.symm
      rw [HH.out.box] at hc; simp only [Option.some.injEq, Obj.cells.injEq] at hc; exact absurd hc.2.1 (show ¬ (79 : TypeId) = 83 by decide))]
    exact bX.block g hlt
  have HP := hide (put_lies HH.out bW1 (p := p) hpd (v' := v8) (by rw [hp]; exact ho8) hg8 hz8)
  refine hK.out _ _ (fun _ => FG.out _ hb8) ?_
  clear hK K
  refine wpAnyE_ready (rs := [11]) (by kernel_rfl) (by simp) ?_
  refine AllReadyE.cons rfl (fun K hK => ?_) AllReadyE.nil
  go_simp
  refine hK.out _ _ (fun _ => FG.out _ hb8) ?_
  clear hK K
  refine wpAnyE_ready (rs := [12]) (by kernel_rfl) (by simp) ?_
  refine AllReadyE.cons rfl (fun K hK => ?_) AllReadyE.nil
  go_simp
  refine hK.out _ _ (fun _ => FG.out _ hb8) ?_
  clear hK K
  refine wpAnyE_ready (rs := [13]) (by kernel_rfl) (by simp) ?_
  refine AllReadyE.cons rfl (fun K hK => ?_) AllReadyE.nil
  have x1 := s1 _ (FG.out _ hb8)
  have x2 := s2 _ (FG.out _ hb8)
  obtain ⟨a8, c8, rfl⟩ := ho8.rd.form
  have x3 : w8.cell? ⟨g, 3, none⟩ = some (.int .u16 nx) := by rw [World.cell?_of_block (w := W) hb8]; exact c3
  have x4 : w8.frozen? ⟨g, 3, none⟩ = false := by rw [World.frozen?_of_block (w := W) hb8]; exact f3
  have ew : IntKind.u16.wrap (nx + 1) = sq S.first (S.count + 1) := by rw [← hnx]; exact wrap_next _ _
  generalize (S.ps ++ [(⟨S.count, a1, l.length, cc1, l, 0, 0⟩ : Pc)]).length = n8 at *
  go_simp
  refine hK.out _ _ (fun h => absurd rfl h) ?_
  clear hK K
  refine wpAnyE_done (by kernel_rfl) ?_ _
  clear hS0 ho8 hg8 hz8 hpd hpn hrow ho1' bX bW1 bD FS FG s1 s2 c4 f3 f4 c3
  go_wp2_with fail
  go_ret2
  obtain ⟨h1, h2, h3⟩ := HP.out
  refine ⟨by rw [hnx]; rfl, p, .slice a8 n8 c8, by rw [hp], by rw [hp], by rw [hp], by rw [hp], h1, ?_, fun k hk => ?_, fun k hk => ?_⟩
  · exact (Chg.of_below HB1.out).trans' h2
  · have := h3 k hk; rw [hz] at this; exact this
  · have := HQ.out k hk; rw [hz] at this; exact this
end Go.Proofs.Yteihajppgooadaa
