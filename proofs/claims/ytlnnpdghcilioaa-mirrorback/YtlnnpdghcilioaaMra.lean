/- A mirror as it lies in memory; isTote, isSeq, isNode, isDevice, device; slices.Index; Where, At. -/
import Derived.Test.YtlnnpdghcilioaaGrp
import Derived.Test.YtlnnpdghcilioaaMmt
namespace Go.Proofs.Ytlnnpdghcilioaa
open Go.RowKit
set_option linter.unusedVariables false

def dvE : El Try.prog Dv where
  t := 69
  e := 73
  k := 6
  by' := 40
  z := .agg #[.int .i64 0, .int .i64 0, .int .i64 0, .int .i64 0, .bool false, .bool false]
  enc D := [.int .i64 D.fr, .int .i64 D.en, .int .i64 D.tt, .int .i64 D.sq, .bool D.ev, .bool D.dn]
  ht := Try.underlying69
  info := by kernel_rfl
  zc := rfl
  kpos := by omega
  bsm := by omega
  len _ := rfl
  one x v hv := by simp at hv; rcases hv with rfl | rfl | rfl | rfl | rfl | rfl <;> rfl
theorem dv_at {w : World} {b n c : Nat} {ds : List Dv} (h : dvE.Rd w (.slice (some ⟨b, 0, none⟩) n c) ds) (i : Nat) (p : Dv) (hp : ds[i]? = some p) :
    w.cell? ⟨b, i * 6, none⟩ = some (.int .i64 p.fr) ∧ w.cell? ⟨b, i * 6 + 1, none⟩ = some (.int .i64 p.en) ∧ w.cell? ⟨b, i * 6 + 2, none⟩ = some (.int .i64 p.tt) ∧ w.cell? ⟨b, i * 6 + 3, none⟩ = some (.int .i64 p.sq) ∧ w.cell? ⟨b, i * 6 + 4, none⟩ = some (.bool p.ev) ∧ w.cell? ⟨b, i * 6 + 5, none⟩ = some (.bool p.dn) := by
  obtain ⟨b', off, h1, h2⟩ := h.at i p hp
  simp only [Option.some.injEq, Addr.mk.injEq] at h1
  obtain ⟨rfl, rfl, _⟩ := h1
  have f : ∀ j, j < 6 → w.cell? ⟨b, 0 + i * 6 + j, none⟩ = (dvE.enc p)[j]? := fun j hj => h2 j hj
  simp only [Nat.zero_add] at f
  exact ⟨f 0 (by omega), f 1 (by omega), f 2 (by omega), f 3 (by omega), f 4 (by omega), f 5 (by omega)⟩

/-- a mirror: g its box, H where its rows lie, of so many nodes and devices -/
def mparts (B g : Nat) (H : Nat × Nat) (n m : Nat) (S : Mr) : List It := [.row dvE B (.slice (some ⟨H.2, 0, none⟩) m m) S.ds, .ints B (.slice (some ⟨H.1, 0, none⟩) n n) S.ts, .box g #[.slice (some ⟨H.1, 0, none⟩) n n, .slice (some ⟨H.2, 0, none⟩) m m] 71]
def MFact (n m : Nat) (es : List (Int × Int)) (S : Mr) : Prop := S.Ok n es ∧ es.length = m
def It.mir (B g : Nat) (H : Nat × Nat) (n m : Nat) (es : List (Int × Int)) (S : Mr) : It := .grp (.fact (MFact n m es S) :: mparts B g H n m S)
section
variable {w : World} {B g n m : Nat} {H : Nat × Nat} {es : List (Int × Int)} {S : Mr}
theorem mr_box (h : (It.mir B g H n m es S).P w) : w.heap[g]? = some (.cells #[.slice (some ⟨H.1, 0, none⟩) n n, .slice (some ⟨H.2, 0, none⟩) m m] 71) := h.1 (.box g #[.slice (some ⟨H.1, 0, none⟩) n n, .slice (some ⟨H.2, 0, none⟩) m m] 71) (by simp [mparts])
theorem mr_cells (h : (It.mir B g H n m es S).P w) : w.cell? ⟨g, 0, none⟩ = some (.slice (some ⟨H.1, 0, none⟩) n n) ∧ w.cell? ⟨g, 1, none⟩ = some (.slice (some ⟨H.2, 0, none⟩) m m) := ⟨(cells_at (mr_box h) 0).1, (cells_at (mr_box h) 1).1⟩
theorem mr_fact (h : (It.mir B g H n m es S).P w) : MFact n m es S := h.1 (.fact (MFact n m es S)) (by simp [mparts])
theorem mr_ok (h : (It.mir B g H n m es S).P w) : S.Ok n es := (mr_fact h).1
theorem mr_len (h : (It.mir B g H n m es S).P w) : S.ts.length = n ∧ S.ds.length = m ∧ n ≤ 40 ∧ m ≤ 120 := by
  have ⟨h1, h2⟩ := mr_fact h
  exact ⟨h1.ln, by rw [h1.len]; exact h2, h1.n40, by have := h1.m120; omega⟩
theorem mr_ts (h : (It.mir B g H n m es S).P w) : intE.Own w B (.slice (some ⟨H.1, 0, none⟩) n n) S.ts := h.1 (.ints B (.slice (some ⟨H.1, 0, none⟩) n n) S.ts) (by simp [mparts])
theorem mr_ds (h : (It.mir B g H n m es S).P w) : dvE.Own w B (.slice (some ⟨H.2, 0, none⟩) m m) S.ds := h.1 (.row dvE B (.slice (some ⟨H.2, 0, none⟩) m m) S.ds) (by simp [mparts])
theorem mr_t (h : (It.mir B g H n m es S).P w) {k : Nat} (hk : k < n) : ∃ x, S.ts[k]? = some x ∧ w.cell? ⟨H.1, k, none⟩ = some (.int .i64 x) ∧ w.frozen? ⟨H.1, k, none⟩ = false := by
  have hl := (mr_len h).1
  have e : S.ts[k]? = some (S.ts[k]'(by omega)) := List.getElem?_eq_getElem _
  have := El.Own.at1 (Value.int .i64) (fun _ => rfl) rfl (mr_ts h) k _ e
  exact ⟨_, e, this⟩
theorem mr_d (h : (It.mir B g H n m es S).P w) {k : Nat} {p : Dv} (hp : S.ds[k]? = some p) :
    w.cell? ⟨H.2, k * 6, none⟩ = some (.int .i64 p.fr) ∧ w.cell? ⟨H.2, k * 6 + 1, none⟩ = some (.int .i64 p.en) ∧ w.cell? ⟨H.2, k * 6 + 2, none⟩ = some (.int .i64 p.tt) ∧ w.cell? ⟨H.2, k * 6 + 3, none⟩ = some (.int .i64 p.sq) ∧ w.cell? ⟨H.2, k * 6 + 4, none⟩ = some (.bool p.ev) ∧ w.cell? ⟨H.2, k * 6 + 5, none⟩ = some (.bool p.dn) := dv_at (mr_ds h).rd k p hp
theorem mr_df (h : (It.mir B g H n m es S).P w) {k j : Nat} (hk : k < m) (hj : j < 6) : w.frozen? ⟨H.2, k * 6 + j, none⟩ = false := by
  have hl := (mr_len h).2.1
  have := (mr_ds h).cell (k * 6 + j) (by show k * 6 + j < S.ds.length * 6; omega)
  exact this.2.1
/-- a mirror's things -/
theorem Its.mopen {w0 : World} {l : List It} (h : Its w0 (.mir B g H n m es S :: l) w) : Its w0 (mparts B g H n m S ++ l) w ∧ MFact n m es S := ⟨h.opn.tail, mr_fact h.one⟩
theorem Its.mshut {w0 : World} {l : List It} (h : Its w0 (mparts B g H n m S ++ l) w) (hl : MFact n m es S) : Its w0 (.mir B g H n m es S :: l) w :=
  Its.shut (a := .fact (MFact n m es S) :: mparts B g H n m S) (h.new (x := .fact (MFact n m es S)) hl (fun k hk => hk.elim) (Below.refl _ _))
end

set_option maxRecDepth 100000 in
theorem isTote_any (t : Int) (w : World) : Calls Try.prog 42 #[.int .i64 t] w fun e w' => e = .returned (.bool (isT t)) ∧ w' = w := by
  by_cases h1 : 1 ≤ t
  · by_cases h2 : t ≤ 30
    · have e : isT t = true := isT_iff.2 ⟨h1, h2⟩
      rw [e]
      go_enter Try.func42, Try.ntmps42
      go_wp2_with fail
      go_ret
      exact ⟨rfl, rfl⟩
    · have e : isT t = false := decide_eq_false (fun h => h2 h.2)
      rw [e]
      go_enter Try.func42, Try.ntmps42
      go_wp2_with fail
      go_ret
      exact ⟨rfl, rfl⟩
  · have e : isT t = false := decide_eq_false (fun h => h1 h.1)
    rw [e]
    go_enter Try.func42, Try.ntmps42
    go_wp2_with fail
    go_ret
    exact ⟨rfl, rfl⟩
set_option maxRecDepth 100000 in
theorem isSeq_any (t : Int) (w : World) : Calls Try.prog 49 #[.int .i64 t] w fun e w' => e = .returned (.bool (isQ t)) ∧ w' = w := by
  by_cases h1 : 0 ≤ t
  · by_cases h2 : t ≤ 65535
    · have e : isQ t = true := isQ_iff.2 ⟨h1, h2⟩
      rw [e]
      go_enter Try.func49, Try.ntmps49
      go_wp2_with fail
      go_ret
      exact ⟨rfl, rfl⟩
    · have e : isQ t = false := decide_eq_false (fun h => h2 h.2)
      rw [e]
      go_enter Try.func49, Try.ntmps49
      go_wp2_with fail
      go_ret
      exact ⟨rfl, rfl⟩
  · have e : isQ t = false := decide_eq_false (fun h => h1 h.1)
    rw [e]
    go_enter Try.func49, Try.ntmps49
    go_wp2_with fail
    go_ret
    exact ⟨rfl, rfl⟩

section
variable {w : World} {B g n m : Nat} {H : Nat × Nat} {es : List (Int × Int)} {S : Mr}
set_option maxRecDepth 100000 in
theorem isNode_m (h : (It.mir B g H n m es S).P w) (x : Int) : Calls Try.prog 44 #[.pointer (some ⟨g, 0, none⟩), .int .i64 x] w fun e w' => e = .returned (.bool (S.isN x)) ∧ w' = w := by
  obtain ⟨c0, c1⟩ := mr_cells h
  obtain ⟨l0, l1, l2, l3⟩ := mr_len h
  have e0 : S.isN x = decide (0 ≤ x ∧ x < n) := by unfold Mr.isN; rw [l0]
  rw [e0]
  clear e0 l0 l1 h
  by_cases h1 : 0 ≤ x
  · by_cases h2 : x < n
    · rw [decide_eq_true ⟨h1, h2⟩]
      go_enter Try.func44, Try.ntmps44
      go_wp2_with fail
      go_ret
      exact ⟨rfl, rfl⟩
    · rw [decide_eq_false (fun h => h2 h.2)]
      go_enter Try.func44, Try.ntmps44
      go_wp2_with fail
      go_ret
      exact ⟨rfl, rfl⟩
  · rw [decide_eq_false (fun h => h1 h.1)]
    go_enter Try.func44, Try.ntmps44
    go_wp2_with fail
    go_ret
    exact ⟨rfl, rfl⟩
set_option maxRecDepth 100000 in
theorem isDev_m (h : (It.mir B g H n m es S).P w) (x : Int) : Calls Try.prog 45 #[.pointer (some ⟨g, 0, none⟩), .int .i64 x] w fun e w' => e = .returned (.bool (S.isD x)) ∧ w' = w := by
  obtain ⟨c0, c1⟩ := mr_cells h
  obtain ⟨l0, l1, l2, l3⟩ := mr_len h
  have e0 : S.isD x = decide (1 ≤ x ∧ x ≤ m) := by unfold Mr.isD; rw [l1]
  rw [e0]
  clear e0 l0 l1 h
  by_cases h1 : 1 ≤ x
  · by_cases h2 : x ≤ m
    · rw [decide_eq_true ⟨h1, h2⟩]
      go_enter Try.func45, Try.ntmps45
      go_wp2_with fail
      go_ret
      exact ⟨rfl, rfl⟩
    · rw [decide_eq_false (fun h => h2 h.2)]
      go_enter Try.func45, Try.ntmps45
      go_wp2_with fail
      go_ret
      exact ⟨rfl, rfl⟩
  · rw [decide_eq_false (fun h => h1 h.1)]
    go_enter Try.func45, Try.ntmps45
    go_wp2_with fail
    go_ret
    exact ⟨rfl, rfl⟩
set_option maxRecDepth 100000 in
theorem device_m (h : (It.mir B g H n m es S).P w) (k : Nat) (hk : k < m) : Calls Try.prog 46 #[.pointer (some ⟨g, 0, none⟩), .int .i64 ((k : Int) + 1)] w fun e w' => e = .returned (.pointer (some ⟨H.2, k * 6, none⟩)) ∧ w' = w := by
  obtain ⟨c0, c1⟩ := mr_cells h
  obtain ⟨l0, l1, l2, l3⟩ := mr_len h
  have k1 : (0 : Int) ≤ (k : Int) := by omega
  have k2 : (k : Int) < (m : Int) := by omega
  have k3 : wrap64 ((k : Int) + 1 - 1) = (k : Int) := by unfold wrap64; omega
  clear l0 l1 h
  go_enter Try.func46, Try.ntmps46
  go_wp2_with fail
  go_ret
  exact ⟨rfl, rfl⟩
end
end Go.Proofs.Ytlnnpdghcilioaa
