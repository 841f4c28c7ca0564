/- Steps of a job; boxes that stay while a shuttle changes. -/
import Derived.Test.YtjmmkkjabpcihaaSlo
namespace Go.Proofs.Ytjmmkkjabpcihaa
open Go.RowKit
set_option linter.unusedVariables false

/-- the same, behind so many ticks -/
def Sh.wt (S : Sh) (k : Int) : Sh := ⟨S.n, S.pt, S.pl, S.st, S.was, k, S.jt, S.jf, S.jo, S.dn⟩
/-- stalled -/
def Sh.stl (S : Sh) (k : Int) : Sh := ⟨S.n, S.pt, S.pl, 5, S.st, k, S.jt, S.jf, S.jo, S.dn⟩
theorem wt_self (S : Sh) : S.wt S.tk = S := rfl
theorem wt_tick {S : Sh} {k : Int} (h1 : 1 ≤ S.st) (h4 : S.st ≤ 4) (hk : k + 1 ≤ S.pt) : (S.wt k).tick = S.wt (k + 1) ∧ (S.wt k).tickK = S.orK ∧ (S.wt k).tickW = S.orW := by
  have hr : ¬ ((S.wt k).st = 0 ∨ (S.wt k).st = 5) := by show ¬ (S.st = 0 ∨ S.st = 5); omega
  have hp : ¬ (S.wt k).pt < (S.wt k).tk + 1 := by show ¬ S.pt < k + 1; omega
  refine ⟨?_, ?_, ?_⟩
  · unfold Sh.tick; rw [if_neg hr, if_neg hp]; rfl
  · unfold Sh.tickK; rw [if_neg hr, if_neg hp]; rfl
  · unfold Sh.tickW; rw [if_neg hr, if_neg hp]; rfl
theorem wt_stall {S : Sh} {k : Int} (h1 : 1 ≤ S.st) (h4 : S.st ≤ 4) (hk : S.pt < k + 1) : (S.wt k).tick = S.stl (k + 1) ∧ (S.wt k).tickK = 0 ∧ (S.wt k).tickW = 0 := by
  have hr : ¬ ((S.wt k).st = 0 ∨ (S.wt k).st = 5) := by show ¬ (S.st = 0 ∨ S.st = 5); omega
  have hp : (S.wt k).pt < (S.wt k).tk + 1 := hk
  refine ⟨?_, ?_, ?_⟩
  · unfold Sh.tick; rw [if_neg hr, if_pos hp]; rfl
  · unfold Sh.tickK; rw [if_neg hr, if_pos hp]
  · unfold Sh.tickW; rw [if_neg hr, if_pos hp]
theorem Sh.Ok.wt {S : Sh} (h : S.Ok) (h1 : 1 ≤ S.st) (h4 : S.st ≤ 4) {k : Int} (k0 : 0 ≤ k) (hk : k ≤ S.pt) : (S.wt k).Ok :=
  ⟨h.n1, h.n2, h.p1, h.p2, h.l1, h.l2, h.s1, h.s2, h.w1, k0, by show k ≤ S.pt + 1; omega, fun _ => hk, h.j1, h.e1, h.e2, h.e3, h.e4⟩
theorem stl_tick (S : Sh) (k : Int) : (S.stl k).tick = S.stl k ∧ (S.stl k).tickK = 0 ∧ (S.stl k).tickW = 0 := ⟨rfl, rfl, rfl⟩

def rnk (S : Sh) : Int := if S.st = 0 then 0 else 5 - S.st
/-- what is behind an order that was done -/
structure Nx (T R : Sh) : Prop where
  ok : R.Ok
  tk : R.tk = 0
  st : R.st ≤ 4
  n : R.n = T.n
  pt : R.pt = T.pt
  job : R.jt = T.jt ∧ R.jf = T.jf ∧ R.jo = T.jo
  dn : R.dn = T.dn + (if R.st = 0 then 1 else 0)
  rk : rnk R + 1 ≤ rnk T
  en : R.st = 0 → R.pl = T.jo ∧ R.load = 0
theorem on_st (S : Sh) (k : Int) : (S.on k).st = if k = 1 ∧ S.pl = S.jf then 2 else if k = 3 ∧ S.pl = S.jo then 4 else k := rfl
theorem ans {T : Sh} (ok : T.Ok) (h1 : 1 ≤ T.st) (h4 : T.st ≤ 4) : (T.orK = 1 ∧ T.mvC T.orW = 0 ∧ Nx T (T.mv T.orW)) ∨ (T.orK = 2 ∧ T.hdC 2 T.orW = 0 ∧ Nx T (T.pk T.orW)) ∨ (T.orK = 3 ∧ T.hdC 4 T.orW = 0 ∧ Nx T (T.dp T.orW)) := by
  have hs : T.st = 1 ∨ T.st = 2 ∨ T.st = 3 ∨ T.st = 4 := by omega
  obtain ⟨j1, j2, j3⟩ := ok.j1 (by omega)
  have e4 := ok.e4
  simp only [Sh.eff] at e4
  rcases hs with hs | hs | hs | hs
  · have hw : T.orW = T.jf := by unfold Sh.orW; rw [if_pos hs]
    have hk : T.orK = 1 := by unfold Sh.orK; rw [if_pos hs]
    rw [hw]
    have hc : T.mvC T.jf = 0 := by
      have hp : T.has T.jf = true := (Sh.has_iff T _).2 j2
      unfold Sh.mvC
      rw [if_neg (by rw [hp]; decide), if_neg (by omega)]
    refine .inl ⟨hk, hc, ?_⟩
    have e : T.mv T.jf = Sh.on ⟨T.n, T.pt, T.jf, T.st, T.was, T.tk, T.jt, T.jf, T.jo, T.dn⟩ T.st := if_pos hc
    have hst : (T.mv T.jf).st = 2 := by rw [e]; exact if_pos ⟨hs, rfl⟩
    exact ⟨ok.mv _, by rw [e]; rfl, by omega, by rw [e]; rfl, by rw [e]; rfl, mv_job T _, by rw [hst, Sh.dn_mv]; simp, by unfold rnk; rw [hst, hs]; decide, fun h => by omega⟩
  · have hw : T.orW = T.jt := by unfold Sh.orW; rw [if_neg (by omega), if_pos hs]
    have hk : T.orK = 2 := by unfold Sh.orK; rw [if_neg (by omega), if_pos hs]
    rw [hw]
    have hc : T.hdC 2 T.jt = 0 := by
      unfold Sh.hdC
      rw [if_neg (by omega), if_neg (by simp)]
    refine .inr (.inl ⟨hk, hc, ?_⟩)
    have e : T.pk T.jt = T.on 3 := if_pos hc
    have hst : (T.pk T.jt).st = 3 ∨ (T.pk T.jt).st = 4 := by
      rw [e, on_st, if_neg (by omega)]
      split
      · exact .inr rfl
      · exact .inl rfl
    exact ⟨ok.pk _, by rw [e]; rfl, by omega, by rw [e]; rfl, by rw [e]; rfl, pk_job T _, by rw [if_neg (by omega), Sh.dn_pk]; simp, by unfold rnk; rw [if_neg (by omega), if_neg (by omega)]; omega, fun h => by omega⟩
  · have hw : T.orW = T.jo := by unfold Sh.orW; rw [if_neg (by omega), if_neg (by omega), if_pos hs]
    have hk : T.orK = 1 := by unfold Sh.orK; rw [if_neg (by omega), if_neg (by omega), if_pos hs]
    rw [hw]
    have hc : T.mvC T.jo = 0 := by
      have hp : T.has T.jo = true := (Sh.has_iff T _).2 j3
      unfold Sh.mvC
      rw [if_neg (by rw [hp]; decide), if_neg (by omega)]
    refine .inl ⟨hk, hc, ?_⟩
    have e : T.mv T.jo = Sh.on ⟨T.n, T.pt, T.jo, T.st, T.was, T.tk, T.jt, T.jf, T.jo, T.dn⟩ T.st := if_pos hc
    have hst : (T.mv T.jo).st = 4 := by rw [e, on_st, if_neg (by omega), if_pos ⟨hs, rfl⟩]
    exact ⟨ok.mv _, by rw [e]; rfl, by omega, by rw [e]; rfl, by rw [e]; rfl, mv_job T _, by rw [hst, Sh.dn_mv]; simp, by unfold rnk; rw [hst, hs]; decide, fun h => by omega⟩
  · have hw : T.orW = T.jt := by unfold Sh.orW; rw [if_neg (by omega), if_neg (by omega), if_neg (by omega), if_pos hs]
    have hk : T.orK = 3 := by unfold Sh.orK; rw [if_neg (by omega), if_neg (by omega), if_neg (by omega), if_pos hs]
    rw [hw]
    have hc : T.hdC 4 T.jt = 0 := by
      unfold Sh.hdC
      rw [if_neg (by omega), if_neg (by simp)]
    refine .inr (.inr ⟨hk, hc, ?_⟩)
    have e : T.dp T.jt = (T.on 0).more := if_pos hc
    have hst : (T.dp T.jt).st = 0 := by rw [e]; rfl
    have hp : T.pl = T.jo := by
      rw [if_neg (by omega)] at e4
      exact e4 hs
    exact ⟨ok.dp _, by rw [e]; rfl, by omega, by rw [e]; rfl, by rw [e]; rfl, dp_job T _, by rw [hst, Sh.dn_dp, if_pos hc]; simp, by unfold rnk; rw [hst, hs]; decide, fun h => ⟨by rw [e]; exact hp, (dp_load ok hc).2.1⟩⟩
/-- a job that was taken -/
theorem as_nx {S : Sh} (ok : S.Ok) {t f o : Int} (h : S.asC t f o = 0) : (S.as t f o).tk = 0 ∧ 1 ≤ (S.as t f o).st ∧ (S.as t f o).st ≤ 4 ∧ (S.as t f o).n = S.n ∧ (S.as t f o).pt = S.pt ∧ rnk (S.as t f o) ≤ 4 := by
  have e : S.as t f o = Sh.on ⟨S.n, S.pt, S.pl, S.st, S.was, S.tk, t, f, o, S.dn⟩ 1 := if_pos h
  have hst : (S.as t f o).st = 1 ∨ (S.as t f o).st = 2 := by
    rw [e, on_st]
    split
    · exact .inr rfl
    · rw [if_neg (by omega)]; exact .inl rfl
  exact ⟨by rw [e]; rfl, by omega, by omega, by rw [e]; rfl, by rw [e]; rfl, by unfold rnk; rw [if_neg (by omega)]; omega⟩

/-- boxes of the law's own -/
structure BW (w0 w : World) (L : List (Nat × Obj)) : Prop where
  bel : Below w0.heap.size w0 w
  bx : ∀ x ∈ L, w.heap[x.1]? = some x.2 ∧ w0.heap.size ≤ x.1
variable {w0 w w' : World} {g : Nat} {S S' : Sh} {L : List (Nat × Obj)}
theorem BW.nil (w : World) : BW w w [] := ⟨Below.refl _ _, by simp⟩
theorem BW.keep (x : BW w0 w L) (hb : Below w.heap.size w w') : BW w0 w' L := ⟨x.bel.trans (hb.mono x.bel.size), fun y hy => ⟨(hb.block _ (heap_lt (x.bx y hy).1)).trans (x.bx y hy).1, (x.bx y hy).2⟩⟩
theorem BW.new (x : BW w0 w L) (o : Obj) (h : Nat) (hh : w.heap.size = h) : BW w0 (w.alloc o) ((h, o) :: L) := by
  have y := x.keep (w' := w.alloc o) ((Below.refl _ _).alloc (Nat.le_refl _) _)
  refine ⟨y.bel, fun z hz => ?_⟩
  rcases List.mem_cons.1 hz with rfl | hz
  · exact ⟨by rw [← hh]; exact heap_new _ _, by rw [← hh]; exact x.bel.size⟩
  · exact y.bx z hz
theorem BW.sub {L' : List (Nat × Obj)} (x : BW w0 w L) (h : ∀ y ∈ L', y ∈ L) : BW w0 w L' := ⟨x.bel, fun y hy => x.bx y (h y hy)⟩
/-- a shuttle and the law's boxes -/
structure SW (w0 w : World) (g : Nat) (S : Sh) (L : List (Nat × Obj)) : Prop where
  sh : Shb w g S
  bw : BW w0 w L
  og : w0.heap.size ≤ g
  ne : ∀ x ∈ L, x.1 ≠ g
theorem SW.of_new {W : World} (x : BW w0 w L) (h : Shb W w.heap.size S) (hb : Below w.heap.size w W) : SW w0 W w.heap.size S L := ⟨h, x.keep hb, x.bel.size, fun y hy => Nat.ne_of_lt (heap_lt (x.bx y hy).1)⟩
theorem SW.keep (x : SW w0 w g S L) (hb : Below w.heap.size w w') : SW w0 w' g S L := ⟨x.sh.keep hb, x.bw.keep hb, x.og, x.ne⟩
theorem SW.chg (x : SW w0 w g S L) (c : Chg w g S' w') : SW w0 w' g S' L := ⟨c.sh, ⟨c.below x.bw.bel x.og (Nat.le_refl _), fun y hy => ⟨(c.gr.block y.1 (heap_lt (x.bw.bx y hy).1) (fun e => x.ne y hy (by cases e; rfl))).trans (x.bw.bx y hy).1, (x.bw.bx y hy).2⟩⟩, x.og, x.ne⟩
theorem SW.new (x : SW w0 w g S L) (o : Obj) (h : Nat) (hh : w.heap.size = h) : SW w0 (w.alloc o) g S ((h, o) :: L) :=
  ⟨x.sh.keep ((Below.refl _ _).alloc (Nat.le_refl _) _), x.bw.new o h hh, x.og, fun y hy => by
    rcases List.mem_cons.1 hy with rfl | hy
    · have := x.sh.lt
      show h ≠ g
      omega
    · exact x.ne y hy⟩
theorem SW.drewN (x : SW w0 w g S L) (q : Nat) : SW w0 (w.drewN q) g S L := ⟨x.sh.drewN q, ⟨below_drew x.bw.bel q, x.bw.bx⟩, x.og, x.ne⟩
theorem SW.sub {L' : List (Nat × Obj)} (x : SW w0 w g S L) (h : ∀ y ∈ L', y ∈ L) : SW w0 w g S L' := ⟨x.sh, x.bw.sub h, x.og, fun y hy => x.ne y (h y hy)⟩
theorem SW.cell (x : SW w0 w g S L) {h : Nat} {C : Array Value} {t : TypeId} (hm : (h, Obj.cells C t) ∈ L) (i : Nat) : w.cell? ⟨h, i, none⟩ = C[i]? := (cells_at (x.bw.bx _ hm).1 i).1
end Go.Proofs.Ytjmmkkjabpcihaa
