/- ShuttleLoads: what a shuttle has, and the walk. -/
import Derived.Test.YtjmmkkjabpcihaaSdo
namespace Go.Proofs.Ytjmmkkjabpcihaa
open Go.RowKit
set_option linter.unusedVariables false

/-- the tote of a state -/
def ldv (k t : Int) : Int := if k = 3 ∨ k = 4 then t else 0
theorem load_st {S : Sh} (h : S.st ≠ 5) : S.load = ldv S.st S.jt := by unfold Sh.load ldv Sh.eff; rw [if_neg h]
theorem load_on (S : Sh) (k : Int) (hk : k ≠ 5) : (S.on k).load = ldv k S.jt := by
  by_cases c1 : k = 1 ∧ S.pl = S.jf
  · have e : (S.on k).st = 2 := if_pos c1
    rw [load_st (by rw [e]; decide), e]
    rw [c1.1]; rfl
  by_cases c3 : k = 3 ∧ S.pl = S.jo
  · have e : (S.on k).st = 4 := (if_neg c1).trans (if_pos c3)
    rw [load_st (by rw [e]; decide), e]
    rw [c3.1]; rfl
  have e : (S.on k).st = k := (if_neg c1).trans (if_neg c3)
  rw [load_st (by rw [e]; exact hk), e]; rfl
theorem asC_zero {S : Sh} {t f o : Int} (h : S.asC t f o = 0) : S.st = 0 ∧ 1 ≤ t ∧ t ≤ 30 ∧ (0 ≤ f ∧ f < S.n) ∧ (0 ≤ o ∧ o < S.n) := by
  unfold Sh.asC at h
  split at h
  · omega
  · rename_i hn
    split at h
    · omega
    · rename_i hs
      have hf : S.has f = true := by cases e : S.has f <;> simp_all
      have ho : S.has o = true := by cases e : S.has o <;> simp_all
      rw [Sh.has_iff] at hf ho
      exact ⟨Decidable.not_not.1 hs, by omega, by omega, hf, ho⟩
theorem as_zero {S : Sh} {t f o : Int} (h : S.asC t f o = 0) : (S.as t f o).jt = t ∧ (S.as t f o).jf = f ∧ (S.as t f o).jo = o ∧ (S.as t f o).load = S.load := by
  have e : S.as t f o = Sh.on ⟨S.n, S.pt, S.pl, S.st, S.was, S.tk, t, f, o, S.dn⟩ 1 := if_pos h
  refine ⟨by rw [e]; rfl, by rw [e]; rfl, by rw [e]; rfl, ?_⟩
  rw [e, load_on _ _ (by decide), load_st (by rw [(asC_zero h).1]; decide), (asC_zero h).1]; rfl
theorem as_no {S : Sh} {t f o : Int} (h : S.asC t f o ≠ 0) : S.as t f o = S := if_neg h
theorem tick_job (S : Sh) : S.tick.jt = S.jt ∧ S.tick.jf = S.jf ∧ S.tick.jo = S.jo ∧ S.tick.pl = S.pl := by unfold Sh.tick; split <;> (try split) <;> exact ⟨rfl, rfl, rfl, rfl⟩
theorem tick_load {S : Sh} : S.tick.load = S.load := by
  unfold Sh.tick
  split
  · rfl
  rename_i hr
  have h5 : S.st ≠ 5 := fun e => hr (.inr e)
  rw [load_st h5]
  split
  · rfl
  · exact load_st h5
theorem tick_says {S : Sh} (h : S.Ok) : S.tickK = 0 ∨ (S.tickK = 1 ∧ (S.tickW = S.jf ∨ S.tickW = S.jo)) ∨ (S.tickK = 2 ∧ S.tickW = S.jt ∧ S.load = 0 ∧ S.pl = S.jf) ∨ (S.tickK = 3 ∧ S.tickW = S.jt ∧ S.load = S.jt ∧ S.pl = S.jo) := by
  unfold Sh.tickK Sh.tickW
  split
  · exact .inl rfl
  rename_i hr
  have h0 : S.st ≠ 0 := fun e => hr (.inl e)
  have h5 : S.st ≠ 5 := fun e => hr (.inr e)
  split
  · exact .inl rfl
  have e2 := h.e2
  have e4 := h.e4
  simp only [Sh.eff, if_neg h5] at e2 e4
  have hs : S.st = 1 ∨ S.st = 2 ∨ S.st = 3 ∨ S.st = 4 := by have := h.s1; have := h.s2; omega
  rw [load_st h5]
  unfold Sh.orK Sh.orW
  rcases hs with hs | hs | hs | hs
  · rw [hs]; exact .inr (.inl ⟨rfl, .inl rfl⟩)
  · rw [hs]; exact .inr (.inr (.inl ⟨rfl, rfl, rfl, e2 hs⟩))
  · rw [hs]; exact .inr (.inl ⟨rfl, .inr rfl⟩)
  · rw [hs]; exact .inr (.inr (.inr ⟨rfl, rfl, rfl, e4 hs⟩))
theorem mv_job (S : Sh) (p : Int) : (S.mv p).jt = S.jt ∧ (S.mv p).jf = S.jf ∧ (S.mv p).jo = S.jo := by unfold Sh.mv; split <;> exact ⟨rfl, rfl, rfl⟩
theorem mv_load {S : Sh} (p : Int) : (S.mv p).load = S.load := by
  unfold Sh.mv
  split
  · rename_i hc
    unfold Sh.mvC at hc
    split at hc
    · omega
    · split at hc
      · omega
      · rename_i hs
        rw [load_on _ _ (by omega), load_st (by omega)]
  · rfl
theorem hd_zero {S : Sh} {k t : Int} (h : S.hdC k t = 0) : S.st = k ∧ t = S.jt := by
  unfold Sh.hdC at h
  split at h
  · omega
  · split at h
    · omega
    · rename_i h1 h2; exact ⟨Decidable.not_not.1 h1, Decidable.not_not.1 h2⟩
theorem pk_job (S : Sh) (t : Int) : (S.pk t).jt = S.jt ∧ (S.pk t).jf = S.jf ∧ (S.pk t).jo = S.jo := by unfold Sh.pk; split <;> exact ⟨rfl, rfl, rfl⟩
theorem pk_load {S : Sh} {t : Int} (h : S.hdC 2 t = 0) : S.load = 0 ∧ (S.pk t).load = t := by
  obtain ⟨hs, rfl⟩ := hd_zero h
  refine ⟨by rw [load_st (by omega), hs]; rfl, ?_⟩
  have e : S.pk S.jt = S.on 3 := if_pos h
  rw [e, load_on _ _ (by decide)]; rfl
theorem dp_job (S : Sh) (t : Int) : (S.dp t).jt = S.jt ∧ (S.dp t).jf = S.jf ∧ (S.dp t).jo = S.jo := by unfold Sh.dp; split <;> exact ⟨rfl, rfl, rfl⟩
theorem dp_load {S : Sh} (ho : S.Ok) {t : Int} (h : S.hdC 4 t = 0) : S.load = t ∧ (S.dp t).load = 0 ∧ 1 ≤ t := by
  obtain ⟨hs, rfl⟩ := hd_zero h
  have := (ho.j1 (by omega)).1.1
  refine ⟨by rw [load_st (by omega), hs]; rfl, ?_, this⟩
  have e : S.dp S.jt = (S.on 0).more := if_pos h
  rw [e]
  exact load_on S 0 (by decide)
theorem rs_job (S : Sh) : S.rs.jt = S.jt ∧ S.rs.jf = S.jf ∧ S.rs.jo = S.jo := by unfold Sh.rs; split <;> exact ⟨rfl, rfl, rfl⟩
theorem rs_load {S : Sh} (ho : S.Ok) : S.rs.load = S.load := by
  unfold Sh.rs
  split
  · rename_i hc
    unfold Sh.rsC at hc
    split at hc
    · omega
    · rename_i hn
      have hs : S.st = 5 := Decidable.not_not.1 hn
      have hw := ho.w1 hs
      rw [load_on _ _ (by omega)]
      unfold Sh.load Sh.eff ldv
      rw [if_pos hs]
  · rfl

/-- a shuttle, and the law's own job -/
structure LW (w0 w : World) (g hj : Nat) (S : Sh) (t f o : Int) : Prop where
  sh : Shb w g S
  jb : w.heap[hj]? = some (.cells #[.int .i64 t, .int .i64 f, .int .i64 o] 31)
  bel : Below w0.heap.size w0 w
  ne : g ≠ hj
  og : w0.heap.size ≤ g
  oh : w0.heap.size ≤ hj
variable {w0 w w' : World} {g hj : Nat} {S S' : Sh} {t f o : Int}
theorem LW.keep (x : LW w0 w g hj S t f o) (hb : Below w.heap.size w w') : LW w0 w' g hj S t f o := ⟨x.sh.keep hb, (hb.block _ (heap_lt x.jb)).trans x.jb, x.bel.trans (hb.mono x.bel.size), x.ne, x.og, x.oh⟩
theorem LW.chg (x : LW w0 w g hj S t f o) (c : Chg w g S' w') : LW w0 w' g hj S' t f o := ⟨c.sh, (c.gr.block hj (heap_lt x.jb) (fun e => x.ne (by cases e; rfl))).trans x.jb, c.below x.bel x.og (Nat.le_refl _), x.ne, x.og, x.oh⟩
theorem LW.put (x : LW w0 w g hj S t f o) (t' f' o' : Int) : LW w0 (((w.setCell ⟨hj, 0, none⟩ (.int .i64 t')).setCell ⟨hj, 1, none⟩ (.int .i64 f')).setCell ⟨hj, 2, none⟩ (.int .i64 o')) g hj S t' f' o' :=
  ⟨x.sh.stay (by rw [Below.heap_setCell _ _ _ _ x.ne, Below.heap_setCell _ _ _ _ x.ne, Below.heap_setCell _ _ _ _ x.ne]), by rw [heap_put (heap_put (heap_put x.jb _) _)]; rfl, ((x.bel.setCell (p := ⟨hj, 0, none⟩) x.oh _).setCell (p := ⟨hj, 1, none⟩) x.oh _).setCell (p := ⟨hj, 2, none⟩) x.oh _, x.ne, x.og, x.oh⟩
theorem LW.cells (x : LW w0 w g hj S t f o) : w.cell? ⟨hj, 0, none⟩ = some (.int .i64 t) ∧ w.cell? ⟨hj, 1, none⟩ = some (.int .i64 f) ∧ w.cell? ⟨hj, 2, none⟩ = some (.int .i64 o) ∧ ∀ i, w.frozen? ⟨hj, i, none⟩ = false := ⟨(cells_at x.jb 0).1, (cells_at x.jb 1).1, (cells_at x.jb 2).1, fun i => (cells_at x.jb i).2⟩
theorem LW.to (x : LW w0 w g hj S' S.jt S.jf S.jo) (e : S'.jt = S.jt ∧ S'.jf = S.jf ∧ S'.jo = S.jo) : LW w0 w g hj S' S'.jt S'.jf S'.jo := by rw [e.1, e.2.1, e.2.2]; exact x
end Go.Proofs.Ytjmmkkjabpcihaa
