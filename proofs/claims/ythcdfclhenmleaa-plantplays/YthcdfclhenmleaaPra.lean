/- A plant as it lies in memory; isTote, isNode, isDevice, device. -/
import Derived.Test.YthcdfclhenmleaaGrp
import Derived.Test.YthcdfclhenmleaaPmt
namespace Go.Proofs.Ythcdfclhenmleaa
open Go.RowKit
set_option linter.unusedVariables false

def dvE : El Try.prog Dv where
  t := 72
  e := 76
  k := 5
  by' := 40
  z := .agg #[.int .i64 0, .int .i64 0, .int .u16 0, .int .i64 0, .bool false]
  enc D := [.int .i64 D.fr, .int .i64 D.en, .int .u16 D.sq, .int .i64 D.tt, .bool D.bk]
  ht := Try.underlying72
  info := by kernel_rfl
  zc := rfl
  kpos := by omega
  bsm := by omega
  len _ := rfl
  one x v hv := by simp at hv; rcases hv with rfl | rfl | rfl | rfl | rfl <;> rfl
theorem dv_at {w : World} {b n c : Nat} {ds : List Dv} (h : dvE.Rd w (.slice (some ⟨b, 0, none⟩) n c) ds) (i : Nat) (p : Dv) (hp : ds[i]? = some p) :
    w.cell? ⟨b, i * 5, none⟩ = some (.int .i64 p.fr) ∧ w.cell? ⟨b, i * 5 + 1, none⟩ = some (.int .i64 p.en) ∧ w.cell? ⟨b, i * 5 + 2, none⟩ = some (.int .u16 p.sq) ∧ w.cell? ⟨b, i * 5 + 3, none⟩ = some (.int .i64 p.tt) ∧ w.cell? ⟨b, i * 5 + 4, none⟩ = some (.bool p.bk) := by
  obtain ⟨b', off, h1, h2⟩ := h.at i p hp
  simp only [Option.some.injEq, Addr.mk.injEq] at h1
  obtain ⟨rfl, rfl, _⟩ := h1
  have f : ∀ j, j < 5 → w.cell? ⟨b, 0 + i * 5 + j, none⟩ = (dvE.enc p)[j]? := fun j hj => h2 j hj
  simp only [Nat.zero_add] at f
  exact ⟨f 0 (by omega), f 1 (by omega), f 2 (by omega), f 3 (by omega), f 4 (by omega)⟩

/-- a plant: g its box, H where its rows lie, of so many nodes and devices -/
def pparts (B g : Nat) (H : Nat × Nat) (n m : Nat) (S : Pl) : List It := [.row dvE B (.slice (some ⟨H.2, 0, none⟩) m m) S.ds, .ints B (.slice (some ⟨H.1, 0, none⟩) n n) S.ts, .box g #[.slice (some ⟨H.1, 0, none⟩) n n, .slice (some ⟨H.2, 0, none⟩) m m, .int .i64 S.mv] 74]
def PFact (n m : Nat) (es : List (Int × Int)) (S : Pl) : Prop := S.Ok n es ∧ es.length = m
def It.pla (B g : Nat) (H : Nat × Nat) (n m : Nat) (es : List (Int × Int)) (S : Pl) : It := .grp (.fact (PFact n m es S) :: pparts B g H n m S)
section
variable {w : World} {B g n m : Nat} {H : Nat × Nat} {es : List (Int × Int)} {S : Pl}
theorem pl_box (h : (It.pla B g H n m es S).P w) : w.heap[g]? = some (.cells #[.slice (some ⟨H.1, 0, none⟩) n n, .slice (some ⟨H.2, 0, none⟩) m m, .int .i64 S.mv] 74) := h.1 (.box g #[.slice (some ⟨H.1, 0, none⟩) n n, .slice (some ⟨H.2, 0, none⟩) m m, .int .i64 S.mv] 74) (by simp [pparts])
theorem pl_cells (h : (It.pla B g H n m es S).P w) : w.cell? ⟨g, 0, none⟩ = some (.slice (some ⟨H.1, 0, none⟩) n n) ∧ w.cell? ⟨g, 1, none⟩ = some (.slice (some ⟨H.2, 0, none⟩) m m) ∧ w.cell? ⟨g, 2, none⟩ = some (.int .i64 S.mv) ∧ ∀ i, w.frozen? ⟨g, i, none⟩ = false := ⟨(cells_at (pl_box h) 0).1, (cells_at (pl_box h) 1).1, (cells_at (pl_box h) 2).1, fun i => (cells_at (pl_box h) i).2⟩
theorem pl_fact (h : (It.pla B g H n m es S).P w) : PFact n m es S := h.1 (.fact (PFact n m es S)) (by simp)
theorem pl_ok (h : (It.pla B g H n m es S).P w) : S.Ok n es := (pl_fact h).1
theorem pl_len (h : (It.pla B g H n m es S).P w) : S.ts.length = n ∧ S.ds.length = m ∧ n ≤ 40 ∧ m ≤ 120 := by
  have ⟨h1, h2⟩ := pl_fact h
  exact ⟨h1.ln, by rw [h1.len]; exact h2, h1.n40, by have := h1.m120; omega⟩
theorem pl_ts (h : (It.pla B g H n m es S).P w) : intE.Own w B (.slice (some ⟨H.1, 0, none⟩) n n) S.ts := h.1 (.ints B (.slice (some ⟨H.1, 0, none⟩) n n) S.ts) (by simp [pparts])
theorem pl_ds (h : (It.pla B g H n m es S).P w) : dvE.Own w B (.slice (some ⟨H.2, 0, none⟩) m m) S.ds := h.1 (.row dvE B (.slice (some ⟨H.2, 0, none⟩) m m) S.ds) (by simp [pparts])
theorem pl_t (h : (It.pla B g H n m es S).P w) {k : Nat} (hk : k < n) : ∃ x, S.ts[k]? = some x ∧ w.cell? ⟨H.1, k, none⟩ = some (.int .i64 x) ∧ w.frozen? ⟨H.1, k, none⟩ = false := by
  have hl := (pl_len h).1
  have e : S.ts[k]? = some (S.ts[k]'(by omega)) := List.getElem?_eq_getElem _
  have := El.Own.at1 (Value.int .i64) (fun _ => rfl) rfl (pl_ts h) k _ e
  exact ⟨_, e, this⟩
theorem pl_d (h : (It.pla B g H n m es S).P w) {k : Nat} {p : Dv} (hp : S.ds[k]? = some p) :
    w.cell? ⟨H.2, k * 5, none⟩ = some (.int .i64 p.fr) ∧ w.cell? ⟨H.2, k * 5 + 1, none⟩ = some (.int .i64 p.en) ∧ w.cell? ⟨H.2, k * 5 + 2, none⟩ = some (.int .u16 p.sq) ∧ w.cell? ⟨H.2, k * 5 + 3, none⟩ = some (.int .i64 p.tt) ∧ w.cell? ⟨H.2, k * 5 + 4, none⟩ = some (.bool p.bk) := dv_at (pl_ds h).rd k p hp
theorem pl_df (h : (It.pla B g H n m es S).P w) {k j : Nat} (hk : k < m) (hj : j < 5) : w.frozen? ⟨H.2, k * 5 + j, none⟩ = false := by
  have hl := (pl_len h).2.1
  have := (pl_ds h).cell (k * 5 + j) (by show k * 5 + j < S.ds.length * 5; omega)
  exact this.2.1
/-- a plant's things -/
theorem Its.popen {w0 : World} {l : List It} (h : Its w0 (.pla B g H n m es S :: l) w) : Its w0 (pparts B g H n m S ++ l) w ∧ PFact n m es S := ⟨h.opn.tail, pl_fact h.one⟩
theorem Its.pshut {w0 : World} {l : List It} (h : Its w0 (pparts B g H n m S ++ l) w) (hl : PFact n m es S) : Its w0 (.pla B g H n m es S :: l) w :=
  Its.shut (a := .fact (PFact n m es S) :: pparts B g H n m S) (h.new (x := .fact (PFact n m es S)) hl (fun k hk => hk.elim) (Below.refl _ _))
/-- a device that is one -/
theorem dev_k (h : (It.pla B g H n m es S).P w) {d : Int} (hD : S.isD d = true) : ∃ k : Nat, d = (k : Int) + 1 ∧ k < m ∧ (d - 1).toNat = k ∧ S.ds[k]? = some (S.dev d) := by
  have hx := Pl.isD_iff.1 hD
  rw [(pl_len h).2.1] at hx
  exact ⟨(d - 1).toNat, by omega, by omega, rfl, (Pl.dev_at hD).1⟩
end

set_option maxRecDepth 100000 in
theorem isTote_any (t : Int) (w : World) : Calls Try.prog 29 #[.int .i64 t] w fun e w' => e = .returned (.bool (isT t)) ∧ w' = w := by
  by_cases h1 : 1 ≤ t
  · by_cases h2 : t ≤ 30
    · have e : isT t = true := isT_iff.2 ⟨h1, h2⟩
      rw [e]
      go_enter Try.func29, Try.ntmps29
      go_wp2_with fail
      go_ret
      exact ⟨rfl, rfl⟩
    · have e : isT t = false := decide_eq_false (fun h => h2 h.2)
      rw [e]
      go_enter Try.func29, Try.ntmps29
      go_wp2_with fail
      go_ret
      exact ⟨rfl, rfl⟩
  · have e : isT t = false := decide_eq_false (fun h => h1 h.1)
    rw [e]
    go_enter Try.func29, Try.ntmps29
    go_wp2_with fail
    go_ret
    exact ⟨rfl, rfl⟩

section
variable {w : World} {B g n m : Nat} {H : Nat × Nat} {es : List (Int × Int)} {S : Pl}
set_option maxRecDepth 100000 in
theorem isNode_m (h : (It.pla B g H n m es S).P w) (x : Int) : Calls Try.prog 30 #[.pointer (some ⟨g, 0, none⟩), .int .i64 x] w fun e w' => e = .returned (.bool (S.isN x)) ∧ w' = w := by
  obtain ⟨c0, c1, c2, cf⟩ := pl_cells h
  obtain ⟨l0, l1, l2, l3⟩ := pl_len h
  have e0 : S.isN x = decide (0 ≤ x ∧ x < n) := by unfold Pl.isN; rw [l0]
  rw [e0]
  clear e0 l0 l1 h c2
  by_cases h1 : 0 ≤ x
  · by_cases h2 : x < n
    · rw [decide_eq_true ⟨h1, h2⟩]
      go_enter Try.func30, Try.ntmps30
      go_wp2_with fail
      go_ret
      exact ⟨rfl, rfl⟩
    · rw [decide_eq_false (fun h => h2 h.2)]
      go_enter Try.func30, Try.ntmps30
      go_wp2_with fail
      go_ret
      exact ⟨rfl, rfl⟩
  · rw [decide_eq_false (fun h => h1 h.1)]
    go_enter Try.func30, Try.ntmps30
    go_wp2_with fail
    go_ret
    exact ⟨rfl, rfl⟩
set_option maxRecDepth 100000 in
theorem isDev_m (h : (It.pla B g H n m es S).P w) (x : Int) : Calls Try.prog 40 #[.pointer (some ⟨g, 0, none⟩), .int .i64 x] w fun e w' => e = .returned (.bool (S.isD x)) ∧ w' = w := by
  obtain ⟨c0, c1, c2, cf⟩ := pl_cells h
  obtain ⟨l0, l1, l2, l3⟩ := pl_len h
  have e0 : S.isD x = decide (1 ≤ x ∧ x ≤ m) := by unfold Pl.isD; rw [l1]
  rw [e0]
  clear e0 l0 l1 h c2
  by_cases h1 : 1 ≤ x
  · by_cases h2 : x ≤ m
    · rw [decide_eq_true ⟨h1, h2⟩]
      go_enter Try.func40, Try.ntmps40
      go_wp2_with fail
      go_ret
      exact ⟨rfl, rfl⟩
    · rw [decide_eq_false (fun h => h2 h.2)]
      go_enter Try.func40, Try.ntmps40
      go_wp2_with fail
      go_ret
      exact ⟨rfl, rfl⟩
  · rw [decide_eq_false (fun h => h1 h.1)]
    go_enter Try.func40, Try.ntmps40
    go_wp2_with fail
    go_ret
    exact ⟨rfl, rfl⟩
set_option maxRecDepth 100000 in
theorem device_m (h : (It.pla B g H n m es S).P w) (k : Nat) (hk : k < m) : Calls Try.prog 34 #[.pointer (some ⟨g, 0, none⟩), .int .i64 ((k : Int) + 1)] w fun e w' => e = .returned (.pointer (some ⟨H.2, k * 5, none⟩)) ∧ w' = w := by
  obtain ⟨c0, c1, c2, cf⟩ := pl_cells h
  obtain ⟨l0, l1, l2, l3⟩ := pl_len h
  have k1 : (0 : Int) ≤ (k : Int) := by omega
  have k2 : (k : Int) < (m : Int) := by omega
  have k3 : wrap64 ((k : Int) + 1 - 1) = (k : Int) := by unfold wrap64; omega
  clear l0 l1 h c2
  go_enter Try.func34, Try.ntmps34
  go_wp2_with fail
  go_ret
  exact ⟨rfl, rfl⟩
end
end Go.Proofs.Ythcdfclhenmleaa
