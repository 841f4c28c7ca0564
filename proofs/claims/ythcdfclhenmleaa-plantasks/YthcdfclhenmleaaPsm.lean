/- Rows of telegrams; what each device is known to have done last. -/
import Derived.Test.YthcdfclhenmleaaPag
import Derived.Test.YthcdfclhenmleaaPmu
namespace Go.Proofs.Ythcdfclhenmleaa
open Go.RowKit
set_option linter.unusedVariables false

def teE : El Try.prog Tl where
  t := 70
  e := 45
  k := 5
  by' := 10
  z := .agg #[.int .u8 0, .int .u16 0, .int .u16 0, .int .u16 0, .int .u16 0]
  enc t := [.int .u8 t.k, .int .u16 t.d, .int .u16 t.s, .int .u16 t.a, .int .u16 t.b]
  ht := Try.underlying70
  info := by kernel_rfl
  zc := rfl
  kpos := by omega
  bsm := by omega
  len _ := rfl
  one x v hv := by simp at hv; rcases hv with rfl | rfl | rfl | rfl | rfl <;> rfl
theorem te_at {w : World} {b n c : Nat} {ts : List Tl} (h : teE.Rd w (.slice (some ⟨b, 0, none⟩) n c) ts) (i : Nat) (p : Tl) (hp : ts[i]? = some p) :
    w.cell? ⟨b, i * 5, none⟩ = some (.int .u8 p.k) ∧ w.cell? ⟨b, i * 5 + 1, none⟩ = some (.int .u16 p.d) ∧ w.cell? ⟨b, i * 5 + 2, none⟩ = some (.int .u16 p.s) ∧ w.cell? ⟨b, i * 5 + 3, none⟩ = some (.int .u16 p.a) ∧ w.cell? ⟨b, i * 5 + 4, none⟩ = some (.int .u16 p.b) := by
  obtain ⟨b', off, h1, h2⟩ := h.at i p hp
  simp only [Option.some.injEq, Addr.mk.injEq] at h1
  obtain ⟨rfl, rfl, _⟩ := h1
  have f : ∀ j, j < 5 → w.cell? ⟨b, 0 + i * 5 + j, none⟩ = (teE.enc p)[j]? := fun j hj => h2 j hj
  simp only [Nat.zero_add] at f
  exact ⟨f 0 (by omega), f 1 (by omega), f 2 (by omega), f 3 (by omega), f 4 (by omega)⟩
theorem Its.te1 {w0 w : World} {l : List It} {B q m : Nat} {ts : List Tl} (h : Its w0 (.row teE B (.slice (some ⟨q, 0, none⟩) m m) ts :: l) w) {k : Nat} {x : Tl} (hx : ts[k]? = some x) (z : Tl) (j : Nat) (u : Value) (hj : j < 5) (he : teE.enc z = (teE.enc x).set j u) :
    Its w0 (.row teE B (.slice (some ⟨q, 0, none⟩) m m) (ts.set k z) :: l) (w.setCell ⟨q, k * 5 + j, none⟩ u) :=
  h.chg (own_setC h.one (i := k) (j := j) hx hj he) (fun _ hk => .inl hk) ((Frm.set w q (k * 5 + j) u).mono (fun j _ hj => by subst hj; rfl))
/-- a whole telegram is written -/
theorem Its.te5 {w0 w : World} {l : List It} {B q m : Nat} {ts : List Tl} (h : Its w0 (.row teE B (.slice (some ⟨q, 0, none⟩) m m) ts :: l) w) {k : Nat} {x : Tl} (hx : ts[k]? = some x) (y : Tl) :
    Its w0 (.row teE B (.slice (some ⟨q, 0, none⟩) m m) (ts.set k y) :: l) (((((w.setCell ⟨q, k * 5, none⟩ (.int .u8 y.k)).setCell ⟨q, k * 5 + 1, none⟩ (.int .u16 y.d)).setCell ⟨q, k * 5 + 2, none⟩ (.int .u16 y.s)).setCell ⟨q, k * 5 + 3, none⟩ (.int .u16 y.a)).setCell ⟨q, k * 5 + 4, none⟩ (.int .u16 y.b)) := by
  have a0 := h.te1 hx ⟨y.k, x.d, x.s, x.a, x.b⟩ 0 (.int .u8 y.k) (by omega) rfl
  have a1 := a0.te1 (set_at hx) ⟨y.k, y.d, x.s, x.a, x.b⟩ 1 (.int .u16 y.d) (by omega) rfl
  rw [List.set_set] at a1
  have a2 := a1.te1 (set_at hx) ⟨y.k, y.d, y.s, x.a, x.b⟩ 2 (.int .u16 y.s) (by omega) rfl
  rw [List.set_set] at a2
  have a3 := a2.te1 (set_at hx) ⟨y.k, y.d, y.s, y.a, x.b⟩ 3 (.int .u16 y.a) (by omega) rfl
  rw [List.set_set] at a3
  have a4 := a3.te1 (set_at hx) ⟨y.k, y.d, y.s, y.a, y.b⟩ 4 (.int .u16 y.b) (by omega) rfl
  rw [List.set_set] at a4
  exact a4
theorem made_te (n : Nat) (hn : n ≤ 1000) : ∃ C : Array Value, (∀ W, (Instr.makeSlice 70 (.int .i64 (n : Int)) (.int .i64 (n : Int))).run Try.prog W = .ok (.slice (some ⟨W.heap.size, 0, none⟩) n n) (W.alloc (.cells C 45))) ∧
    ∀ W : World, teE.Own (W.alloc (.cells C 45)) W.heap.size (.slice (some ⟨W.heap.size, 0, none⟩) n n) (List.replicate n tz) := made_any teE tz rfl n hn (by decide)

/-- what is known of each device is what it did last -/
def AskI (S : Pl) (m : Nat) (La : List Tl) : Prop := La.length = m + 1 ∧ S.ds.length = m ∧ ∀ d : Nat, 1 ≤ d → d ≤ m → ∃ x : Tl, La[d]? = some x ∧ (S.dev d).sq = x.s ∧ (S.dev d).tt = x.a
theorem AskI.zero {n : Nat} {es : List (Int × Int)} {m : Nat} (hm : es.length = m) : AskI (Pl.nw n es) m (List.replicate (m + 1) tz) := by
  have hl : (Pl.nw n es).ds.length = es.length := by unfold Pl.nw; simp
  refine ⟨by simp, by rw [hl, hm], fun d h1 h2 => ⟨tz, by rw [List.getElem?_replicate, if_pos (by omega)], ?_⟩⟩
  have hd : (Pl.nw n es).isD (d : Int) = true := Pl.isD_iff.2 (by rw [hl]; omega)
  obtain ⟨e, _, he⟩ := List.mem_map.1 (Pl.dev_at hd).2
  rw [← he]; exact ⟨rfl, rfl⟩
theorem AskI.as {S S' : Pl} {m : Nat} {La : List Tl} (h : AskI S m La) (hl : S'.ds.length = S.ds.length) (hd : ∀ d : Int, S.isD d = true → (S'.dev d).sq = (S.dev d).sq ∧ (S'.dev d).tt = (S.dev d).tt) : AskI S' m La := by
  refine ⟨h.1, hl.trans h.2.1, fun d h1 h2 => ?_⟩
  obtain ⟨x, e1, e2, e3⟩ := h.2.2 d h1 h2
  obtain ⟨q1, q2⟩ := hd d (Pl.isD_iff.2 (by rw [h.2.1]; omega))
  exact ⟨x, e1, q1.trans e2, q2.trans e3⟩
theorem put_len (S : Pl) (t x : Int) : (S.put t x).2.ds.length = S.ds.length := by
  unfold Pl.put
  split
  · rfl
  split
  · rfl
  split <;> rfl
theorem AskI.put {S : Pl} {m : Nat} {La : List Tl} (h : AskI S m La) (t x : Int) : AskI (S.put t x).2 m La :=
  h.as (put_len S t x) (fun d hd => by rw [(put_dev S t x d).1]; exact ⟨rfl, rfl⟩)
theorem AskI.brk {S : Pl} {m : Nat} {La : List Tl} (h : AskI S m La) (d' k : Int) (b : Bool) : AskI (S.brk d' k b).2 m La := by
  unfold Pl.brk
  by_cases q : S.isD d' = false
  · rw [if_pos q]; exact h
  · rw [if_neg q]
    have hd' : S.isD d' = true := by simpa using q
    refine h.as (by unfold Pl.setD; simp) (fun d hd => ?_)
    show ((S.setD d' _).dev d).sq = _ ∧ _
    rw [setD_dev hd' hd]
    split
    · rename_i e; subst e; exact ⟨rfl, rfl⟩
    · exact ⟨rfl, rfl⟩
theorem AskI.go {S : Pl} {m : Nat} {La : List Tl} (h : AskI S m La) {t : Tl} {q : Nat} (hd : S.isD t.d = true) (hq : t.d = (q : Int)) : AskI (S.go t) m (La.set q (dn t)) := by
  refine ⟨by rw [List.length_set]; exact h.1, by unfold Pl.go; simp only [List.length_set]; exact h.2.1, fun d h1 h2 => ?_⟩
  have hd2 : S.isD (d : Int) = true := Pl.isD_iff.2 (by rw [h.2.1]; omega)
  rw [go_dev hd hd2]
  by_cases e : (d : Int) = t.d
  · have e2 : d = q := by omega
    subst e2
    rw [if_pos e]
    exact ⟨dn t, by rw [List.getElem?_set, if_pos rfl, if_pos (by rw [h.1]; omega)], rfl, rfl⟩
  · rw [if_neg e]
    obtain ⟨x, e1, e2, e3⟩ := h.2.2 d h1 h2
    exact ⟨x, by rw [set_off (by omega)]; exact e1, e2, e3⟩
/-- a device is asked -/
theorem ask_any (S : Pl) (d s : Int) : S.hear ⟨6, d, s, 0, 0⟩ = ((if S.wrk d = true then ⟨7, d, s, (S.dev d).sq, (S.dev d).tt⟩ else tz, S.wrk d), S) := by
  unfold Pl.hear
  cases h : S.wrk d with
  | false => rw [if_pos rfl]; rfl
  | true => rw [if_neg (by simp), if_neg (by simp), if_pos rfl]; rfl
end Go.Proofs.Ythcdfclhenmleaa
